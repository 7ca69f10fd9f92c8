import Derived.Test.YtheikjkfffepnaaTo
import Derived.Test.YtheikjkfffepnaaTq
namespace Go.Proofs.Ytheikjkfffepnaa
open Go.RowKit
set_option linter.unusedSimpArgs false
set_option linter.unusedVariables false
set_option linter.unusedVariables false

/-! the helpers of the exact laws, over what a station knows and keeps -/
set_option maxRecDepth 100000 in
theorem szNearEntryS_ok : PureOk Try.prog 15 g_szS := by
  refine PureOk.of_vc (G := []) (by simp) mixed Try.func15 (by kernel_rfl) rfl ?_
  intro args cnd r bs hg hc
  unfold g_szS at hg
  split at hg
  · rename_i sz rows l
    cases hg
    obtain ⟨hl, hn, s, hs⟩ := hc
    refine ⟨⟨rfl, by simp, by simp [AV.ids, AV.ids.idsL]⟩, [.l sz rows, .v (.int .i64 l)], rfl, fun w vs h => h, ?_⟩
    simp (maxSteps := 3000000) only [Try.f15, tY2, tY3, tY4, tY5, tY9, tY12, tY21, tY22, tY23, tY24, tY25, tY26, tY27, tY29, tY30, tY31, tY32, tY33, tY37, tY49, tY50, tY51, tY52, tY53, tY68, tY70, tY87, tY96, Try.underlying2, Try.underlying3, Try.underlying4, Try.underlying5, Try.underlying9, Try.underlying12, Try.underlying21, Try.underlying22, Try.underlying23, Try.underlying24, Try.underlying25, Try.underlying26, Try.underlying27, Try.underlying29, Try.underlying30, Try.underlying31, Try.underlying32, Try.underlying33, Try.underlying37, Try.underlying49, Try.underlying50, Try.underlying51, Try.underlying52, Try.underlying53, Try.underlying68, Try.underlying70, Try.underlying87, Try.underlying96, e_skip, e_label, e_ret, e_exit, e_seq, e_cond, e_block, e_region, seqK_normal, seqK_ret, seqK_exit, blkK_normal, blkK_ret, blkK_exit, condK_some, regK_true, regK_false, e_nil, e_cons, gateK_go, gateK_skip, gateK_ask, pickK_some, exK_some, x_pick, x_move, x_assign, x_alloc, x_box, x_build, x_buildSlice, x_load, x_store, x_binOp, x_unOp, x_convert, x_makeSlice, x_slice, x_fieldAddr, x_field, x_indexAddr, x_extract, x_nilCheck, x_call, x_len, x_append, x_min, oMin, x_copy, oCopy, eqAVs, callK_some, done_ret, done_normal, doneO_ret, doneO_normal, endsO_one, endsO_nil, endsO_more, ownAbs, frzAbs, leafs, leafs.leafsL, uniq, idxOf, bk, zipB, Blk.liveB, gate_none, gate_some, gateS_none, gateS_some, gateV_bool, gateV_undef, boolOf, evA, putT, refn, fpD, oBin, oUn, upsl, upl, up, ups, lk, dstsOf, resL, resA, packA, oLoadQ, oLoadKid, oStoreQ, oStoreTree, oBuildSliceQ, oBuildTree, oAppendQ, oAppendTree, isTr, isTrP, tkd, tkds, tkRows, ownOf, nodupB, deadL, treeOf, kidAbs, kidBlk, kidRows, TK.isCell, D.toL, oLoad, oStore, oAlloc, oBox, oBuild, oBuildSlice, oMake, oAppend, oIndexAddr, oFieldAddr, oField, oExtract, oNil, oSlice, oLen, oConvert, rowLoad, fillA, fillR, slB, dk, dks, dkRows, frz, loOf, hiOf, lenOf, rowsOf, nilV, lenV, putAt, views, viewsOk, CK.av, CK.ok, AV.cells, AV.one, Value.oneCell', Value.cells, pureAbs, nrm, nrm.nrmL, hpAt, sh, AV.ren, AV.ren.renL, Blk.ren, fpOf, footO, foot, blkIds, AV.ids, AV.ids.idsL, Op.operands, Call.operands, List.find?_cons, List.find?_nil, Nat.reduceBEq, beq_self_eq_true, List.map_cons, List.map_nil, List.getD_cons_zero, List.getD_cons_succ, List.getD_nil, List.set_cons_zero, List.set_cons_succ, List.length_cons, List.length_nil, List.replicate, List.cons_append, List.nil_append, List.append_nil, List.getElem?_cons_zero, List.getElem?_cons_succ, List.getElem?_toArray, List.getElem?_nil, List.take_zero, List.take_succ_cons, List.take_nil, List.drop_zero, List.drop_succ_cons, List.drop_nil, List.headD_cons, List.tail_cons, List.flatten_cons, List.flatten_nil, List.flatMap_cons, List.flatMap_nil, List.toList_toArray, Array.toList_append, Option.bind_some, Option.map_some, Option.map_none, Option.isSome_some, List.all_nil, List.all_cons, Bool.and_self, Bool.and_true, Bool.true_and, true_and, and_true, ↓reduceIte, List.size_toArray, Bool.false_eq_true, Bool.true_eq_false, false_implies, true_implies, Bool.not_true, Bool.not_false, and_self, implies_true, decide_true, decide_false, Nat.reduceAdd, Nat.reduceMul, Nat.reduceLT, Nat.reduceSub, Nat.reduceLeDiff, Nat.reduceEqDiff, eq_self, ne_eq, not_false_eq_true, false_and, and_false, reduceCtorEq, List.filter_nil, List.filter_cons, List.isEmpty_nil, List.isEmpty_cons, bne_self_eq_false, Nat.reduceBneDiff, Nat.lt_add_one, Nat.zero_lt_succ, List.append_assoc, Nat.zero_le, and_self_iff, Int.reduceToNat, List.any_nil, List.any_cons, List.filterMap_nil, List.filterMap_cons, List.contains_nil, List.contains_cons, Bool.or_false, Bool.false_or, Bool.or_true, Bool.true_or, Bool.false_and, Bool.and_false, decide_eq_true_eq, decide_eq_false_iff_not, beq_iff_eq, Int.toNat_natCast]
    rw [szLeft_eq hl hn]
    split
    · exact ⟨_, [], rfl, by (refine ⟨?_, ?_, ?_⟩ <;> simp [packA, hpAt, fitT, fit1, fitH, fitB, trE, emptyB, rn, lk, AV.ren, AV.ren.renL, Blk.ren, blkIds, blkPids, AV.ids, AV.ids.idsL, AV.pids, AV.pids.pidsL, Blk.there])⟩
    · exact ⟨_, [], rfl, by (refine ⟨?_, ?_, ?_⟩ <;> simp [packA, hpAt, fitT, fit1, fitH, fitB, trE, emptyB, rn, lk, AV.ren, AV.ren.renL, Blk.ren, blkIds, blkPids, AV.ids, AV.ids.idsL, AV.pids, AV.pids.pidsL, Blk.there])⟩
  · cases hg
def g_szNearHeld : PC := fun args => match args with
  | [.agg [.v (.int .i64 a), .l _ rows], .v (.int .i64 l)] => some ((0 ≤ l ∧ l ≤ 1048576) ∧ rows.length ≤ 9223372036854775807 ∧ ∃ xs, rows = rowsOfBytes xs, .v (.int .i64 (szLeft l rows.length)), [])
  | _ => none
def szs : List (FuncId × Abs) := [(52, pureAbs g_szS), (15, pureAbs g_szS)]
theorem szs_ok : ∀ p ∈ szs, CallOk Try.prog p.1 p.2 := by
  intro p hp
  simp only [szs, List.mem_cons, List.not_mem_nil, or_false] at hp
  rcases hp with rfl | rfl
  · exact szByteS_ok.call
  · exact szNearEntryS_ok.call
set_option maxRecDepth 100000 in
theorem szNearHeld_ok : PureOk Try.prog 40 g_szNearHeld := by
  refine PureOk.of_vc (G := szs) szs_ok mixed Try.func40 (by kernel_rfl) rfl ?_
  intro args cnd r bs hg hc
  unfold g_szNearHeld at hg
  split at hg
  · rename_i a sz rows l
    cases hg
    obtain ⟨hl, hn, xs, rfl⟩ := hc
    refine ⟨⟨rfl, by simp, by simp [AV.ids, AV.ids.idsL]⟩, [.agg [.v (.int .i64 a), .l 1 (rowsOfBytes xs)], .v (.int .i64 l)], rfl, fun w vs h => CvL.ok (.cons (.cons (.refl _) (.cons (.l _ _ _ (rowsOf_w xs)) .nil)) (.cons (.refl _) .nil)) h, ?_⟩
    simp (maxSteps := 3000000) only [Try.f40, szs, g_szS, tY2, tY3, tY4, tY5, tY9, tY12, tY21, tY22, tY23, tY24, tY25, tY26, tY27, tY29, tY30, tY31, tY32, tY33, tY37, tY49, tY50, tY51, tY52, tY53, tY68, tY70, tY87, tY96, Try.underlying2, Try.underlying3, Try.underlying4, Try.underlying5, Try.underlying9, Try.underlying12, Try.underlying21, Try.underlying22, Try.underlying23, Try.underlying24, Try.underlying25, Try.underlying26, Try.underlying27, Try.underlying29, Try.underlying30, Try.underlying31, Try.underlying32, Try.underlying33, Try.underlying37, Try.underlying49, Try.underlying50, Try.underlying51, Try.underlying52, Try.underlying53, Try.underlying68, Try.underlying70, Try.underlying87, Try.underlying96, e_skip, e_label, e_ret, e_exit, e_seq, e_cond, e_block, e_region, seqK_normal, seqK_ret, seqK_exit, blkK_normal, blkK_ret, blkK_exit, condK_some, regK_true, regK_false, e_nil, e_cons, gateK_go, gateK_skip, gateK_ask, pickK_some, exK_some, x_pick, x_move, x_assign, x_alloc, x_box, x_build, x_buildSlice, x_load, x_store, x_binOp, x_unOp, x_convert, x_makeSlice, x_slice, x_fieldAddr, x_field, x_indexAddr, x_extract, x_nilCheck, x_call, x_len, x_append, x_min, oMin, x_copy, oCopy, eqAVs, callK_some, done_ret, done_normal, doneO_ret, doneO_normal, endsO_one, endsO_nil, endsO_more, ownAbs, frzAbs, leafs, leafs.leafsL, uniq, idxOf, bk, zipB, Blk.liveB, gate_none, gate_some, gateS_none, gateS_some, gateV_bool, gateV_undef, boolOf, evA, putT, refn, fpD, oBin, oUn, upsl, upl, up, ups, lk, dstsOf, resL, resA, packA, oLoadQ, oLoadKid, oStoreQ, oStoreTree, oBuildSliceQ, oBuildTree, oAppendQ, oAppendTree, isTr, isTrP, tkd, tkds, tkRows, ownOf, nodupB, deadL, treeOf, kidAbs, kidBlk, kidRows, TK.isCell, D.toL, oLoad, oStore, oAlloc, oBox, oBuild, oBuildSlice, oMake, oAppend, oIndexAddr, oFieldAddr, oField, oExtract, oNil, oSlice, oLen, oConvert, rowLoad, fillA, fillR, slB, dk, dks, dkRows, frz, loOf, hiOf, lenOf, rowsOf, nilV, lenV, putAt, views, viewsOk, CK.av, CK.ok, AV.cells, AV.one, Value.oneCell', Value.cells, pureAbs, nrm, nrm.nrmL, hpAt, sh, AV.ren, AV.ren.renL, Blk.ren, fpOf, footO, foot, blkIds, AV.ids, AV.ids.idsL, Op.operands, Call.operands, List.find?_cons, List.find?_nil, Nat.reduceBEq, beq_self_eq_true, List.map_cons, List.map_nil, List.getD_cons_zero, List.getD_cons_succ, List.getD_nil, List.set_cons_zero, List.set_cons_succ, List.length_cons, List.length_nil, List.replicate, List.cons_append, List.nil_append, List.append_nil, List.getElem?_cons_zero, List.getElem?_cons_succ, List.getElem?_toArray, List.getElem?_nil, List.take_zero, List.take_succ_cons, List.take_nil, List.drop_zero, List.drop_succ_cons, List.drop_nil, List.headD_cons, List.tail_cons, List.flatten_cons, List.flatten_nil, List.flatMap_cons, List.flatMap_nil, List.toList_toArray, Array.toList_append, Option.bind_some, Option.map_some, Option.map_none, Option.isSome_some, List.all_nil, List.all_cons, Bool.and_self, Bool.and_true, Bool.true_and, true_and, and_true, ↓reduceIte, List.size_toArray, Bool.false_eq_true, Bool.true_eq_false, false_implies, true_implies, Bool.not_true, Bool.not_false, and_self, implies_true, decide_true, decide_false, Nat.reduceAdd, Nat.reduceMul, Nat.reduceLT, Nat.reduceSub, Nat.reduceLeDiff, Nat.reduceEqDiff, eq_self, ne_eq, not_false_eq_true, false_and, and_false, reduceCtorEq, List.filter_nil, List.filter_cons, List.isEmpty_nil, List.isEmpty_cons, bne_self_eq_false, Nat.reduceBneDiff, Nat.lt_add_one, Nat.zero_lt_succ, List.append_assoc, Nat.zero_le, and_self_iff, Int.reduceToNat, List.any_nil, List.any_cons, List.filterMap_nil, List.filterMap_cons, List.contains_nil, List.contains_cons, Bool.or_false, Bool.false_or, Bool.or_true, Bool.true_or, Bool.false_and, Bool.and_false, decide_eq_true_eq, decide_eq_false_iff_not, beq_iff_eq, Int.toNat_natCast]
    have hb := szLeft_bd (n := (rowsOfBytes xs).length) hl
    refine ⟨⟨by omega, by omega, 1, rowsOf_w _⟩, ?_⟩
    generalize szLeft l (rowsOfBytes xs).length = z at hb ⊢
    split
    · rename_i hz
      obtain rfl : z = -1 := by omega
      exact ⟨_, [], rfl, by (refine ⟨?_, ?_, ?_⟩ <;> simp [packA, hpAt, fitT, fit1, fitH, fitB, trE, emptyB, rn, lk, AV.ren, AV.ren.renL, Blk.ren, blkIds, blkPids, AV.ids, AV.ids.idsL, AV.pids, AV.pids.pidsL, Blk.there])⟩
    · exact ⟨_, [], rfl, by (refine ⟨?_, ?_, ?_⟩ <;> simp [packA, hpAt, fitT, fit1, fitH, fitB, trE, emptyB, rn, lk, AV.ren, AV.ren.renL, Blk.ren, blkIds, blkPids, AV.ids, AV.ids.idsL, AV.pids, AV.pids.pidsL, Blk.there])⟩
  · cases hg
/-- what is left behind packets that are kept -/
def szHF : List HE → Int → Int
  | [], l => l
  | h :: t, l => if szLeft l h.d.length < 0 then -1 else szHF t (szLeft l h.d.length)
def szHS (hs : List HE) (l : Int) : Int := if szLeft l hs.length < 0 then -1 else szHF hs (szLeft l hs.length)
theorem szHF_bd : ∀ (hs : List HE) (l : Int), 0 ≤ l ∧ l ≤ 1048576 → -1 ≤ szHF hs l ∧ szHF hs l ≤ 1048576 ∧ (0 ≤ szHF hs l → ∀ h ∈ hs, h.d.length ≤ 1048576)
  | [], l, hl => ⟨by simp [szHF]; omega, by simp [szHF]; omega, fun _ h hh => by cases hh⟩
  | h :: t, l, hl => by
    have hb := szLeft_bd (n := h.d.length) hl
    simp only [szHF]
    split
    · exact ⟨by omega, by omega, fun h => by omega⟩
    · obtain ⟨h1, h2, h3⟩ := szHF_bd t (szLeft l h.d.length) (by omega)
      refine ⟨h1, h2, fun h0 x hx => ?_⟩
      rcases List.mem_cons.1 hx with rfl | hx
      · omega
      · exact h3 h0 x hx
theorem szHS_bd (hs : List HE) (l : Int) (hl : 0 ≤ l ∧ l ≤ 1048576) : -1 ≤ szHS hs l ∧ szHS hs l ≤ 1048576 ∧ (0 ≤ szHS hs l → hs.length ≤ 1048576 ∧ ∀ h ∈ hs, h.d.length ≤ 1048576) := by
  have hb := szLeft_bd (n := hs.length) hl
  unfold szHS
  split
  · exact ⟨by omega, by omega, fun h => by omega⟩
  · obtain ⟨h1, h2, h3⟩ := szHF_bd hs (szLeft l hs.length) (by omega)
    exact ⟨h1, h2, fun h0 => ⟨by omega, h3 h0⟩⟩
def hFin (hs : List HE) : Prop := hs.length ≤ 9223372036854775807 ∧ ∀ h ∈ hs, h.d.length ≤ 9223372036854775807
def g_szNearHeldS : PC := fun args => match args with
  | [.l _ rows, .v (.int .i64 l)] => some ((0 ≤ l ∧ l ≤ 1048576) ∧ ∃ hs, rows = hRows hs ∧ hFin hs, .v (.int .i64 (szHS (hsOf rows) l)), [])
  | _ => none
def szs2 : List (FuncId × Abs) := [(40, pureAbs g_szNearHeld)]
theorem szs2_ok : ∀ p ∈ szs2, CallOk Try.prog p.1 p.2 := by
  intro p hp
  simp only [szs2, List.mem_cons, List.not_mem_nil, or_false] at hp
  rcases hp with rfl
  · exact szNearHeld_ok.call

set_option maxRecDepth 100000 in
theorem szNearHeldS_ok : PureOk Try.prog 16 g_szNearHeldS := by
  refine PureOk.of_vc (G := szs2) szs2_ok mixed Try.func16 (by kernel_rfl) rfl ?_
  intro args cnd r bs hg hc
  unfold g_szNearHeldS at hg
  split at hg
  · rename_i sz rows l
    cases hg
    obtain ⟨hl, hs, rfl, hf1, hf2⟩ := hc
    rw [hsOf_rows]
    refine ⟨⟨rfl, by simp, by simp [AV.ids]⟩, [.l 2 (hRows hs), .v (.int .i64 l)], rfl, fun w vs h => CvL.ok (.cons (.l _ _ _ (hRows_w hs)) (.cons (.refl _) .nil)) h, ?_⟩
    have hb := szLeft_bd (n := hs.length) hl
    have e0 := szLeft_eq hl hf1
    have w0 : IntKind.i64.wrap (l - (hs.length : Int)) = l - (hs.length : Int) := wrap_id (by omega) (by omega)
    simp (maxSteps := 3000000) only [Try.f16, szs2, hRows_len, tY2, tY3, tY4, tY5, tY9, tY12, tY21, tY22, tY23, tY24, tY25, tY26, tY27, tY29, tY30, tY31, tY32, tY33, tY37, tY49, tY50, tY51, tY52, tY53, tY68, tY70, tY87, tY96, Try.underlying2, Try.underlying3, Try.underlying4, Try.underlying5, Try.underlying9, Try.underlying12, Try.underlying21, Try.underlying22, Try.underlying23, Try.underlying24, Try.underlying25, Try.underlying26, Try.underlying27, Try.underlying29, Try.underlying30, Try.underlying31, Try.underlying32, Try.underlying33, Try.underlying37, Try.underlying49, Try.underlying50, Try.underlying51, Try.underlying52, Try.underlying53, Try.underlying68, Try.underlying70, Try.underlying87, Try.underlying96, e_skip, e_label, e_ret, e_exit, e_seq, e_cond, e_block, e_region, seqK_normal, seqK_ret, seqK_exit, blkK_normal, blkK_ret, blkK_exit, condK_some, regK_true, regK_false, e_nil, e_cons, gateK_go, gateK_skip, gateK_ask, pickK_some, exK_some, x_pick, x_move, x_assign, x_alloc, x_box, x_build, x_buildSlice, x_load, x_store, x_binOp, x_unOp, x_convert, x_makeSlice, x_slice, x_fieldAddr, x_field, x_indexAddr, x_extract, x_nilCheck, x_call, x_len, x_append, x_min, oMin, x_copy, oCopy, eqAVs, callK_some, done_ret, done_normal, doneO_ret, doneO_normal, endsO_one, endsO_nil, endsO_more, ownAbs, frzAbs, leafs, leafs.leafsL, uniq, idxOf, bk, zipB, Blk.liveB, gate_none, gate_some, gateS_none, gateS_some, gateV_bool, gateV_undef, boolOf, evA, putT, refn, fpD, oBin, oUn, upsl, upl, up, ups, lk, dstsOf, resL, resA, packA, oLoadQ, oLoadKid, oStoreQ, oStoreTree, oBuildSliceQ, oBuildTree, oAppendQ, oAppendTree, isTr, isTrP, tkd, tkds, tkRows, ownOf, nodupB, deadL, treeOf, kidAbs, kidBlk, kidRows, TK.isCell, D.toL, oLoad, oStore, oAlloc, oBox, oBuild, oBuildSlice, oMake, oAppend, oIndexAddr, oFieldAddr, oField, oExtract, oNil, oSlice, oLen, oConvert, rowLoad, fillA, fillR, slB, dk, dks, dkRows, frz, loOf, hiOf, lenOf, rowsOf, nilV, lenV, putAt, views, viewsOk, CK.av, CK.ok, AV.cells, AV.one, Value.oneCell', Value.cells, pureAbs, nrm, nrm.nrmL, hpAt, sh, AV.ren, AV.ren.renL, Blk.ren, fpOf, footO, foot, blkIds, AV.ids, AV.ids.idsL, Op.operands, Call.operands, List.find?_cons, List.find?_nil, Nat.reduceBEq, beq_self_eq_true, List.map_cons, List.map_nil, List.getD_cons_zero, List.getD_cons_succ, List.getD_nil, List.set_cons_zero, List.set_cons_succ, List.length_cons, List.length_nil, List.replicate, List.cons_append, List.nil_append, List.append_nil, List.getElem?_cons_zero, List.getElem?_cons_succ, List.getElem?_toArray, List.getElem?_nil, List.take_zero, List.take_succ_cons, List.take_nil, List.drop_zero, List.drop_succ_cons, List.drop_nil, List.headD_cons, List.tail_cons, List.flatten_cons, List.flatten_nil, List.flatMap_cons, List.flatMap_nil, List.toList_toArray, Array.toList_append, Option.bind_some, Option.map_some, Option.map_none, Option.isSome_some, List.all_nil, List.all_cons, Bool.and_self, Bool.and_true, Bool.true_and, true_and, and_true, ↓reduceIte, List.size_toArray, Bool.false_eq_true, Bool.true_eq_false, false_implies, true_implies, Bool.not_true, Bool.not_false, and_self, implies_true, decide_true, decide_false, Nat.reduceAdd, Nat.reduceMul, Nat.reduceLT, Nat.reduceSub, Nat.reduceLeDiff, Nat.reduceEqDiff, eq_self, ne_eq, not_false_eq_true, false_and, and_false, reduceCtorEq, List.filter_nil, List.filter_cons, List.isEmpty_nil, List.isEmpty_cons, bne_self_eq_false, Nat.reduceBneDiff, Nat.lt_add_one, Nat.zero_lt_succ, List.append_assoc, Nat.zero_le, and_self_iff, Int.reduceToNat, List.any_nil, List.any_cons, List.filterMap_nil, List.filterMap_cons, List.contains_nil, List.contains_cons, Bool.or_false, Bool.false_or, Bool.or_true, Bool.true_or, Bool.false_and, Bool.and_false, decide_eq_true_eq, decide_eq_false_iff_not, beq_iff_eq, Int.toNat_natCast, w0]
    rw [w0] at e0
    by_cases h0 : l - (hs.length : Int) < 0
    · rw [if_pos h0]
      rw [if_pos h0] at e0
      have e : szHS hs l = -1 := by rw [szHS, e0]; rfl
      rw [e]
      exact ⟨_, [], rfl, by (refine ⟨?_, ?_, ?_⟩ <;> simp [packA, hpAt, fitT, fit1, fitH, fitB, trE, emptyB, rn, lk, AV.ren, AV.ren.renL, Blk.ren, blkIds, blkPids, AV.ids, AV.ids.idsL, AV.pids, AV.pids.pidsL, Blk.there])⟩
    · rw [if_neg h0]
      rw [if_neg h0] at e0
      have e : szHS hs l = szHF hs (l - hs.length) := by rw [szHS, e0, if_neg h0]
      rw [e]
      refine e_loop _ _ _ _ _ _ _ _ (fun x : Nat × Int => [.l 2 (hRows hs), .v (.int .i64 x.2), .any, .any, .any, .v (.int .i64 (x.1 : Int))] ++ List.replicate (Try.f16.ntmps - 6) .any) (fun _ => []) (fun x => x.1 ≤ hs.length ∧ (0 ≤ x.2 ∧ x.2 ≤ 1048576) ∧ szHF hs (l - hs.length) = szHF (hs.drop x.1) x.2) (fun x => hs.length - x.1) 0 (fun k => by simp) ⟨(0, l - hs.length), [], ⟨by simp, by dsimp only; omega, rfl⟩, ?_, by simp [keepIds]⟩ fun ⟨k, m⟩ ⟨hk, hm, hinv⟩ => ?_
      · simp only [Try.f16]
        (refine ⟨?_, ?_, ?_⟩ <;> simp [fitT, fit1, fitH, fitB, trE, emptyB, rn, lk, AV.ren, AV.ren.renL, Blk.ren, blkIds, blkPids, AV.ids, AV.ids.idsL, AV.pids, AV.pids.pidsL, Blk.there])
      · dsimp only at hk hm hinv ⊢
        have w2 : IntKind.i64.wrap ((k : Int) + 1) = ((k + 1 : Nat) : Int) := by rw [wrap_id] <;> omega
        by_cases h : k < hs.length
        · have hrow := hRows_get hs k h
          have hlt : ((k : Int) < (hs.length : Int)) = True := eq_true (by omega)
          have hk0 : (0 ≤ (k : Int)) = True := eq_true (by omega)
          have hb2 := szLeft_bd (n := hs[k].d.length) hm
          have hfk := hf2 hs[k] (List.getElem_mem h)
          rw [drop_at _ _ h, szHF] at hinv
          simp (maxSteps := 3000000) only [Try.f16, szs2, g_szNearHeld, hRows_len, hrow, hlt, hk0, D.toI, D.toL, rowsOf_len, tY2, tY3, tY4, tY5, tY9, tY12, tY21, tY22, tY23, tY24, tY25, tY26, tY27, tY29, tY30, tY31, tY32, tY33, tY37, tY49, tY50, tY51, tY52, tY53, tY68, tY70, tY87, tY96, Try.underlying2, Try.underlying3, Try.underlying4, Try.underlying5, Try.underlying9, Try.underlying12, Try.underlying21, Try.underlying22, Try.underlying23, Try.underlying24, Try.underlying25, Try.underlying26, Try.underlying27, Try.underlying29, Try.underlying30, Try.underlying31, Try.underlying32, Try.underlying33, Try.underlying37, Try.underlying49, Try.underlying50, Try.underlying51, Try.underlying52, Try.underlying53, Try.underlying68, Try.underlying70, Try.underlying87, Try.underlying96, e_skip, e_label, e_ret, e_exit, e_seq, e_cond, e_block, e_region, seqK_normal, seqK_ret, seqK_exit, blkK_normal, blkK_ret, blkK_exit, condK_some, regK_true, regK_false, e_nil, e_cons, gateK_go, gateK_skip, gateK_ask, pickK_some, exK_some, x_pick, x_move, x_assign, x_alloc, x_box, x_build, x_buildSlice, x_load, x_store, x_binOp, x_unOp, x_convert, x_makeSlice, x_slice, x_fieldAddr, x_field, x_indexAddr, x_extract, x_nilCheck, x_call, x_len, x_append, x_min, oMin, x_copy, oCopy, eqAVs, callK_some, done_ret, done_normal, doneO_ret, doneO_normal, endsO_one, endsO_nil, endsO_more, ownAbs, frzAbs, leafs, leafs.leafsL, uniq, idxOf, bk, zipB, Blk.liveB, gate_none, gate_some, gateS_none, gateS_some, gateV_bool, gateV_undef, boolOf, evA, putT, refn, fpD, oBin, oUn, upsl, upl, up, ups, lk, dstsOf, resL, resA, packA, oLoadQ, oLoadKid, oStoreQ, oStoreTree, oBuildSliceQ, oBuildTree, oAppendQ, oAppendTree, isTr, isTrP, tkd, tkds, tkRows, ownOf, nodupB, deadL, treeOf, kidAbs, kidBlk, kidRows, TK.isCell, D.toL, oLoad, oStore, oAlloc, oBox, oBuild, oBuildSlice, oMake, oAppend, oIndexAddr, oFieldAddr, oField, oExtract, oNil, oSlice, oLen, oConvert, rowLoad, fillA, fillR, slB, dk, dks, dkRows, frz, loOf, hiOf, lenOf, rowsOf, nilV, lenV, putAt, views, viewsOk, CK.av, CK.ok, AV.cells, AV.one, Value.oneCell', Value.cells, pureAbs, nrm, nrm.nrmL, hpAt, sh, AV.ren, AV.ren.renL, Blk.ren, fpOf, footO, foot, blkIds, AV.ids, AV.ids.idsL, Op.operands, Call.operands, List.find?_cons, List.find?_nil, Nat.reduceBEq, beq_self_eq_true, List.map_cons, List.map_nil, List.getD_cons_zero, List.getD_cons_succ, List.getD_nil, List.set_cons_zero, List.set_cons_succ, List.length_cons, List.length_nil, List.replicate, List.cons_append, List.nil_append, List.append_nil, List.getElem?_cons_zero, List.getElem?_cons_succ, List.getElem?_toArray, List.getElem?_nil, List.take_zero, List.take_succ_cons, List.take_nil, List.drop_zero, List.drop_succ_cons, List.drop_nil, List.headD_cons, List.tail_cons, List.flatten_cons, List.flatten_nil, List.flatMap_cons, List.flatMap_nil, List.toList_toArray, Array.toList_append, Option.bind_some, Option.map_some, Option.map_none, Option.isSome_some, List.all_nil, List.all_cons, Bool.and_self, Bool.and_true, Bool.true_and, true_and, and_true, ↓reduceIte, List.size_toArray, Bool.false_eq_true, Bool.true_eq_false, false_implies, true_implies, Bool.not_true, Bool.not_false, and_self, implies_true, decide_true, decide_false, Nat.reduceAdd, Nat.reduceMul, Nat.reduceLT, Nat.reduceSub, Nat.reduceLeDiff, Nat.reduceEqDiff, eq_self, ne_eq, not_false_eq_true, false_and, and_false, reduceCtorEq, List.filter_nil, List.filter_cons, List.isEmpty_nil, List.isEmpty_cons, bne_self_eq_false, Nat.reduceBneDiff, Nat.lt_add_one, Nat.zero_lt_succ, List.append_assoc, Nat.zero_le, and_self_iff, Int.reduceToNat, List.any_nil, List.any_cons, List.filterMap_nil, List.filterMap_cons, List.contains_nil, List.contains_cons, Bool.or_false, Bool.false_or, Bool.or_true, Bool.true_or, Bool.false_and, Bool.and_false, decide_eq_true_eq, decide_eq_false_iff_not, beq_iff_eq, Int.toNat_natCast, loopK_normal, loopK_exit, loopK_ret, w2]
          refine ⟨⟨by omega, by omega, _, rfl⟩, ?_⟩
          by_cases hz : szLeft m hs[k].d.length < 0
          · rw [if_pos hz]
            rw [if_pos hz] at hinv
            rw [hinv]
            exact ⟨_, [], rfl, by (refine ⟨?_, ?_, ?_⟩ <;> simp [packA, hpAt, fitT, fit1, fitH, fitB, trE, emptyB, rn, lk, AV.ren, AV.ren.renL, Blk.ren, blkIds, blkPids, AV.ids, AV.ids.idsL, AV.pids, AV.pids.pidsL, Blk.there])⟩
          · rw [if_neg hz]
            rw [if_neg hz] at hinv
            refine ⟨(k + 1, szLeft m hs[k].d.length), [], ⟨by dsimp only; omega, by dsimp only; omega, hinv⟩, by dsimp only; omega, ?_, by simp [keepIds]⟩
            (refine ⟨?_, ?_, ?_⟩ <;> simp [fitT, fit1, fitH, fitB, trE, emptyB, rn, lk, AV.ren, AV.ren.renL, Blk.ren, blkIds, blkPids, AV.ids, AV.ids.idsL, AV.pids, AV.pids.pidsL, Blk.there])
        · have hlt : ((k : Int) < (hs.length : Int)) = False := eq_false (by omega)
          simp (maxSteps := 3000000) only [Try.f16, hRows_len, hlt, tY2, tY3, tY4, tY5, tY9, tY12, tY21, tY22, tY23, tY24, tY25, tY26, tY27, tY29, tY30, tY31, tY32, tY33, tY37, tY49, tY50, tY51, tY52, tY53, tY68, tY70, tY87, tY96, Try.underlying2, Try.underlying3, Try.underlying4, Try.underlying5, Try.underlying9, Try.underlying12, Try.underlying21, Try.underlying22, Try.underlying23, Try.underlying24, Try.underlying25, Try.underlying26, Try.underlying27, Try.underlying29, Try.underlying30, Try.underlying31, Try.underlying32, Try.underlying33, Try.underlying37, Try.underlying49, Try.underlying50, Try.underlying51, Try.underlying52, Try.underlying53, Try.underlying68, Try.underlying70, Try.underlying87, Try.underlying96, e_skip, e_label, e_ret, e_exit, e_seq, e_cond, e_block, e_region, seqK_normal, seqK_ret, seqK_exit, blkK_normal, blkK_ret, blkK_exit, condK_some, regK_true, regK_false, e_nil, e_cons, gateK_go, gateK_skip, gateK_ask, pickK_some, exK_some, x_pick, x_move, x_assign, x_alloc, x_box, x_build, x_buildSlice, x_load, x_store, x_binOp, x_unOp, x_convert, x_makeSlice, x_slice, x_fieldAddr, x_field, x_indexAddr, x_extract, x_nilCheck, x_call, x_len, x_append, x_min, oMin, x_copy, oCopy, eqAVs, callK_some, done_ret, done_normal, doneO_ret, doneO_normal, endsO_one, endsO_nil, endsO_more, ownAbs, frzAbs, leafs, leafs.leafsL, uniq, idxOf, bk, zipB, Blk.liveB, gate_none, gate_some, gateS_none, gateS_some, gateV_bool, gateV_undef, boolOf, evA, putT, refn, fpD, oBin, oUn, upsl, upl, up, ups, lk, dstsOf, resL, resA, packA, oLoadQ, oLoadKid, oStoreQ, oStoreTree, oBuildSliceQ, oBuildTree, oAppendQ, oAppendTree, isTr, isTrP, tkd, tkds, tkRows, ownOf, nodupB, deadL, treeOf, kidAbs, kidBlk, kidRows, TK.isCell, D.toL, oLoad, oStore, oAlloc, oBox, oBuild, oBuildSlice, oMake, oAppend, oIndexAddr, oFieldAddr, oField, oExtract, oNil, oSlice, oLen, oConvert, rowLoad, fillA, fillR, slB, dk, dks, dkRows, frz, loOf, hiOf, lenOf, rowsOf, nilV, lenV, putAt, views, viewsOk, CK.av, CK.ok, AV.cells, AV.one, Value.oneCell', Value.cells, pureAbs, nrm, nrm.nrmL, hpAt, sh, AV.ren, AV.ren.renL, Blk.ren, fpOf, footO, foot, blkIds, AV.ids, AV.ids.idsL, Op.operands, Call.operands, List.find?_cons, List.find?_nil, Nat.reduceBEq, beq_self_eq_true, List.map_cons, List.map_nil, List.getD_cons_zero, List.getD_cons_succ, List.getD_nil, List.set_cons_zero, List.set_cons_succ, List.length_cons, List.length_nil, List.replicate, List.cons_append, List.nil_append, List.append_nil, List.getElem?_cons_zero, List.getElem?_cons_succ, List.getElem?_toArray, List.getElem?_nil, List.take_zero, List.take_succ_cons, List.take_nil, List.drop_zero, List.drop_succ_cons, List.drop_nil, List.headD_cons, List.tail_cons, List.flatten_cons, List.flatten_nil, List.flatMap_cons, List.flatMap_nil, List.toList_toArray, Array.toList_append, Option.bind_some, Option.map_some, Option.map_none, Option.isSome_some, List.all_nil, List.all_cons, Bool.and_self, Bool.and_true, Bool.true_and, true_and, and_true, ↓reduceIte, List.size_toArray, Bool.false_eq_true, Bool.true_eq_false, false_implies, true_implies, Bool.not_true, Bool.not_false, and_self, implies_true, decide_true, decide_false, Nat.reduceAdd, Nat.reduceMul, Nat.reduceLT, Nat.reduceSub, Nat.reduceLeDiff, Nat.reduceEqDiff, eq_self, ne_eq, not_false_eq_true, false_and, and_false, reduceCtorEq, List.filter_nil, List.filter_cons, List.isEmpty_nil, List.isEmpty_cons, bne_self_eq_false, Nat.reduceBneDiff, Nat.lt_add_one, Nat.zero_lt_succ, List.append_assoc, Nat.zero_le, and_self_iff, Int.reduceToNat, List.any_nil, List.any_cons, List.filterMap_nil, List.filterMap_cons, List.contains_nil, List.contains_cons, Bool.or_false, Bool.false_or, Bool.or_true, Bool.true_or, Bool.false_and, Bool.and_false, decide_eq_true_eq, decide_eq_false_iff_not, beq_iff_eq, Int.toNat_natCast, loopK_normal, loopK_exit, loopK_ret, w2]
          rw [List.drop_eq_nil_of_le (by omega), szHF] at hinv
          rw [hinv]
          exact ⟨_, [], rfl, by (refine ⟨?_, ?_, ?_⟩ <;> simp [packA, hpAt, fitT, fit1, fitH, fitB, trE, emptyB, rn, lk, AV.ren, AV.ren.renL, Blk.ren, blkIds, blkPids, AV.ids, AV.ids.idsL, AV.pids, AV.pids.pidsL, Blk.there])⟩
  · cases hg
/-- what is left behind a station -/
def szN (ks : List KE) (hs : List HE) (l : Int) : Int := if szLeft l ks.length < 0 then -1 else szHS hs (szLeft l ks.length)
theorem szN_bd (ks : List KE) (hs : List HE) (l : Int) (hl : 0 ≤ l ∧ l ≤ 1048576) (h0 : ¬ szN ks hs l < 0) : ks.length ≤ 1048576 ∧ hs.length ≤ 1048576 ∧ ∀ h ∈ hs, h.d.length ≤ 1048576 := by
  have hb := szLeft_bd (n := ks.length) hl
  unfold szN at h0
  split at h0
  · omega
  · have h2 := szHS_bd hs (szLeft l ks.length) (by omega)
    exact ⟨by omega, (h2.2.2 (by omega)).1, (h2.2.2 (by omega)).2⟩
def g_szNear : PC := fun args => match args with
  | [.agg [.l _ rows, .l _ rows'], .v (.int .i64 l)] => some ((0 ≤ l ∧ l ≤ 1048576) ∧ (∃ ks, rows = kRows ks ∧ ks.length ≤ 9223372036854775807) ∧ (∃ hs, rows' = hRows hs ∧ hFin hs), .v (.int .i64 (szN (ksOf rows) (hsOf rows') l)), [])
  | _ => none
def szs3 : List (FuncId × Abs) := [(15, pureAbs g_szS), (16, pureAbs g_szNearHeldS)]
theorem szs3_ok : ∀ p ∈ szs3, CallOk Try.prog p.1 p.2 := by
  intro p hp
  simp only [szs3, List.mem_cons, List.not_mem_nil, or_false] at hp
  rcases hp with rfl | rfl
  · exact szNearEntryS_ok.call
  · exact szNearHeldS_ok.call
set_option maxRecDepth 100000 in
theorem szNear_ok : PureOk Try.prog 4 g_szNear := by
  refine PureOk.of_vc (G := szs3) szs3_ok mixed Try.func4 (by kernel_rfl) rfl ?_
  intro args cnd r bs hg hc
  unfold g_szNear at hg
  split at hg
  · rename_i sz rows sz' rows' l
    cases hg
    obtain ⟨hl, ⟨ks, rfl, hk⟩, hs, rfl, hf⟩ := hc
    rw [ksOf_rows, hsOf_rows]
    refine ⟨⟨rfl, by simp, by simp [AV.ids, AV.ids.idsL]⟩, [.agg [.l 3 (kRows ks), .l 2 (hRows hs)], .v (.int .i64 l)], rfl, fun w vs h => CvL.ok (.cons (.cons (.l _ _ _ (kRows_w ks)) (.cons (.l _ _ _ (hRows_w hs)) .nil)) (.cons (.refl _) .nil)) h, ?_⟩
    simp (maxSteps := 3000000) only [Try.f4, szs3, g_szS, g_szNearHeldS, kRows_len, hsOf_rows, tY2, tY3, tY4, tY5, tY9, tY12, tY21, tY22, tY23, tY24, tY25, tY26, tY27, tY29, tY30, tY31, tY32, tY33, tY37, tY49, tY50, tY51, tY52, tY53, tY68, tY70, tY87, tY96, Try.underlying2, Try.underlying3, Try.underlying4, Try.underlying5, Try.underlying9, Try.underlying12, Try.underlying21, Try.underlying22, Try.underlying23, Try.underlying24, Try.underlying25, Try.underlying26, Try.underlying27, Try.underlying29, Try.underlying30, Try.underlying31, Try.underlying32, Try.underlying33, Try.underlying37, Try.underlying49, Try.underlying50, Try.underlying51, Try.underlying52, Try.underlying53, Try.underlying68, Try.underlying70, Try.underlying87, Try.underlying96, e_skip, e_label, e_ret, e_exit, e_seq, e_cond, e_block, e_region, seqK_normal, seqK_ret, seqK_exit, blkK_normal, blkK_ret, blkK_exit, condK_some, regK_true, regK_false, e_nil, e_cons, gateK_go, gateK_skip, gateK_ask, pickK_some, exK_some, x_pick, x_move, x_assign, x_alloc, x_box, x_build, x_buildSlice, x_load, x_store, x_binOp, x_unOp, x_convert, x_makeSlice, x_slice, x_fieldAddr, x_field, x_indexAddr, x_extract, x_nilCheck, x_call, x_len, x_append, x_min, oMin, x_copy, oCopy, eqAVs, callK_some, done_ret, done_normal, doneO_ret, doneO_normal, endsO_one, endsO_nil, endsO_more, ownAbs, frzAbs, leafs, leafs.leafsL, uniq, idxOf, bk, zipB, Blk.liveB, gate_none, gate_some, gateS_none, gateS_some, gateV_bool, gateV_undef, boolOf, evA, putT, refn, fpD, oBin, oUn, upsl, upl, up, ups, lk, dstsOf, resL, resA, packA, oLoadQ, oLoadKid, oStoreQ, oStoreTree, oBuildSliceQ, oBuildTree, oAppendQ, oAppendTree, isTr, isTrP, tkd, tkds, tkRows, ownOf, nodupB, deadL, treeOf, kidAbs, kidBlk, kidRows, TK.isCell, D.toL, oLoad, oStore, oAlloc, oBox, oBuild, oBuildSlice, oMake, oAppend, oIndexAddr, oFieldAddr, oField, oExtract, oNil, oSlice, oLen, oConvert, rowLoad, fillA, fillR, slB, dk, dks, dkRows, frz, loOf, hiOf, lenOf, rowsOf, nilV, lenV, putAt, views, viewsOk, CK.av, CK.ok, AV.cells, AV.one, Value.oneCell', Value.cells, pureAbs, nrm, nrm.nrmL, hpAt, sh, AV.ren, AV.ren.renL, Blk.ren, fpOf, footO, foot, blkIds, AV.ids, AV.ids.idsL, Op.operands, Call.operands, List.find?_cons, List.find?_nil, Nat.reduceBEq, beq_self_eq_true, List.map_cons, List.map_nil, List.getD_cons_zero, List.getD_cons_succ, List.getD_nil, List.set_cons_zero, List.set_cons_succ, List.length_cons, List.length_nil, List.replicate, List.cons_append, List.nil_append, List.append_nil, List.getElem?_cons_zero, List.getElem?_cons_succ, List.getElem?_toArray, List.getElem?_nil, List.take_zero, List.take_succ_cons, List.take_nil, List.drop_zero, List.drop_succ_cons, List.drop_nil, List.headD_cons, List.tail_cons, List.flatten_cons, List.flatten_nil, List.flatMap_cons, List.flatMap_nil, List.toList_toArray, Array.toList_append, Option.bind_some, Option.map_some, Option.map_none, Option.isSome_some, List.all_nil, List.all_cons, Bool.and_self, Bool.and_true, Bool.true_and, true_and, and_true, ↓reduceIte, List.size_toArray, Bool.false_eq_true, Bool.true_eq_false, false_implies, true_implies, Bool.not_true, Bool.not_false, and_self, implies_true, decide_true, decide_false, Nat.reduceAdd, Nat.reduceMul, Nat.reduceLT, Nat.reduceSub, Nat.reduceLeDiff, Nat.reduceEqDiff, eq_self, ne_eq, not_false_eq_true, false_and, and_false, reduceCtorEq, List.filter_nil, List.filter_cons, List.isEmpty_nil, List.isEmpty_cons, bne_self_eq_false, Nat.reduceBneDiff, Nat.lt_add_one, Nat.zero_lt_succ, List.append_assoc, Nat.zero_le, and_self_iff, Int.reduceToNat, List.any_nil, List.any_cons, List.filterMap_nil, List.filterMap_cons, List.contains_nil, List.contains_cons, Bool.or_false, Bool.false_or, Bool.or_true, Bool.true_or, Bool.false_and, Bool.and_false, decide_eq_true_eq, decide_eq_false_iff_not, beq_iff_eq, Int.toNat_natCast]
    have hb := szLeft_bd (n := ks.length) hl
    refine ⟨⟨by omega, by omega, 3, kRows_w _⟩, ?_⟩
    unfold szN
    generalize szLeft l ks.length = z at hb ⊢
    split
    · exact ⟨_, [], rfl, by (refine ⟨?_, ?_, ?_⟩ <;> simp [packA, hpAt, fitT, fit1, fitH, fitB, trE, emptyB, rn, lk, AV.ren, AV.ren.renL, Blk.ren, blkIds, blkPids, AV.ids, AV.ids.idsL, AV.pids, AV.pids.pidsL, Blk.there])⟩
    · have hb2 := szHS_bd hs z (by omega)
      refine ⟨⟨by omega, _, rfl, hf⟩, ?_⟩
      generalize szHS hs z = y at hb2 ⊢
      split
      · obtain rfl : y = -1 := by omega
        exact ⟨_, [], rfl, by (refine ⟨?_, ?_, ?_⟩ <;> simp [packA, hpAt, fitT, fit1, fitH, fitB, trE, emptyB, rn, lk, AV.ren, AV.ren.renL, Blk.ren, blkIds, blkPids, AV.ids, AV.ids.idsL, AV.pids, AV.pids.pidsL, Blk.there])⟩
      · exact ⟨_, [], rfl, by (refine ⟨?_, ?_, ?_⟩ <;> simp [packA, hpAt, fitT, fit1, fitH, fitB, trE, emptyB, rn, lk, AV.ren, AV.ren.renL, Blk.ren, blkIds, blkPids, AV.ids, AV.ids.idsL, AV.pids, AV.pids.pidsL, Blk.there])⟩
  · cases hg
end Go.Proofs.Ytheikjkfffepnaa

namespace Go.Proofs.Ytheikjkfffepnaa
open Go.RowKit
set_option linter.unusedSimpArgs false
set_option linter.unusedVariables false

/-! the copies and the comparisons of the exact laws -/
def g_toE : PC := fun args => match args with
  | [.agg [.v (.int .i64 a), .v (.int .i64 l), .v (.int .i64 u)]] => some (True, .agg [.v (.int .i64 a), .v (.int .i64 l), .v (.int .i64 u)], [])
  | _ => none
def g_toH : PC := fun args => match args with
  | [.agg [.v (.int .i64 a), .l _ rows]] => some (∃ xs, rows = rowsOfBytes xs ∧ xs.length ≤ 140737488355328, .agg [.v (.int .i64 a), .l 1 rows], [])
  | _ => none
def tos : List (FuncId × Abs) := [(53, pureAbs g_toByteS)]
def g_toES : PC := fun args => match args with
  | [.l _ rows] => some (∃ ks, rows = kRows ks ∧ ks.length ≤ 1048576, .l 3 rows, [])
  | _ => none
def g_toHS : PC := fun args => match args with
  | [.l _ rows] => some (∃ hs, rows = hRows hs ∧ hs.length ≤ 1048576 ∧ ∀ h ∈ hs, h.d.length ≤ 1048576, .l 2 rows, [])
  | _ => none
/-- rows that are written one by one -/
theorem fill_row {α : Type} {xs : List α} {n k : Nat} (hn : n = xs.length) {x : α} (hx : xs[k]? = some x) (z : α) : (xs.take k ++ List.replicate (n - k) z).set k x = xs.take (k + 1) ++ List.replicate (n - (k + 1)) z := by
  have hk := (List.getElem?_eq_some_iff.1 hx).1
  have hl : (xs.take k).length = k := by rw [List.length_take]; omega
  have hm : n - k = (n - (k + 1)) + 1 := by omega
  rw [hm, List.replicate_succ, List.set_append_right _ _ (by omega), hl, Nat.sub_self, List.set_cons_zero, List.take_add_one, hx]
  simp
def tos2 : List (FuncId × Abs) := [(41, pureAbs g_toE), (42, frzAbs g_toH)]
def g_toN : PC := fun args => match args with
  | [.agg [.l _ rows, .l _ rows']] => some ((∃ ks, rows = kRows ks ∧ ks.length ≤ 1048576) ∧ ∃ hs, rows' = hRows hs ∧ hs.length ≤ 1048576 ∧ ∀ h ∈ hs, h.d.length ≤ 1048576, .agg [.l 3 rows, .l 2 rows'], [])
  | _ => none
def tos3 : List (FuncId × Abs) := [(21, frzAbs g_toES), (22, frzAbs g_toHS)]
/-- are they the same -/
def g_eqE : PC := fun args => match args with
  | [.agg [.v (.int .i64 a), .v (.int .i64 l), .v (.int .i64 u)], .agg [.v (.int .i64 a'), .v (.int .i64 l'), .v (.int .i64 u')]] => some (True, .v (.bool (a == a' && l == l' && u == u')), [])
  | _ => none
def g_eqH : PC := fun args => match args with
  | [.agg [.v (.int .i64 a), .l _ rows], .agg [.v (.int .i64 a'), .l _ rows']] => some ((∃ xs, rows = rowsOfBytes xs ∧ xs.length ≤ 140737488355328) ∧ ∃ ys, rows' = rowsOfBytes ys ∧ ys.length ≤ 140737488355328, .v (.bool (a == a' && bytesOfRows rows == bytesOfRows rows')), [])
  | _ => none
set_option maxRecDepth 100000 in
theorem eqNearEntry_ok : PureOk Try.prog 50 g_eqE := by
  refine PureOk.of_vc (G := []) (by simp) mixed Try.func50 (by kernel_rfl) rfl ?_
  intro args cnd r bs hg hc
  unfold g_eqE at hg
  split at hg
  · rename_i a l u a' l' u'
    cases hg
    refine ⟨⟨rfl, by simp, by simp [AV.ids, AV.ids.idsL]⟩, _, rfl, fun w vs h => h, ?_⟩
    simp (maxSteps := 3000000) only [Try.f50, tY2, tY3, tY4, tY5, tY9, tY12, tY21, tY22, tY23, tY24, tY25, tY26, tY27, tY29, tY30, tY31, tY32, tY33, tY37, tY49, tY50, tY51, tY52, tY53, tY68, tY70, tY87, tY96, Try.underlying2, Try.underlying3, Try.underlying4, Try.underlying5, Try.underlying9, Try.underlying12, Try.underlying21, Try.underlying22, Try.underlying23, Try.underlying24, Try.underlying25, Try.underlying26, Try.underlying27, Try.underlying29, Try.underlying30, Try.underlying31, Try.underlying32, Try.underlying33, Try.underlying37, Try.underlying49, Try.underlying50, Try.underlying51, Try.underlying52, Try.underlying53, Try.underlying68, Try.underlying70, Try.underlying87, Try.underlying96, e_skip, e_label, e_ret, e_exit, e_seq, e_cond, e_block, e_region, seqK_normal, seqK_ret, seqK_exit, blkK_normal, blkK_ret, blkK_exit, condK_some, regK_true, regK_false, e_nil, e_cons, gateK_go, gateK_skip, gateK_ask, pickK_some, exK_some, x_pick, x_move, x_assign, x_alloc, x_box, x_build, x_buildSlice, x_load, x_store, x_binOp, x_unOp, x_convert, x_makeSlice, x_slice, x_fieldAddr, x_field, x_indexAddr, x_extract, x_nilCheck, x_call, x_len, x_append, x_min, oMin, x_copy, oCopy, eqAVs, callK_some, done_ret, done_normal, doneO_ret, doneO_normal, endsO_one, endsO_nil, endsO_more, ownAbs, frzAbs, leafs, leafs.leafsL, uniq, idxOf, bk, zipB, Blk.liveB, gate_none, gate_some, gateS_none, gateS_some, gateV_bool, gateV_undef, boolOf, evA, putT, refn, fpD, oBin, oUn, upsl, upl, up, ups, lk, dstsOf, resL, resA, packA, oLoadQ, oLoadKid, oStoreQ, oStoreTree, oBuildSliceQ, oBuildTree, oAppendQ, oAppendTree, isTr, isTrP, tkd, tkds, tkRows, ownOf, nodupB, deadL, treeOf, kidAbs, kidBlk, kidRows, TK.isCell, D.toL, oLoad, oStore, oAlloc, oBox, oBuild, oBuildSlice, oMake, oAppend, oIndexAddr, oFieldAddr, oField, oExtract, oNil, oSlice, oLen, oConvert, rowLoad, fillA, fillR, slB, dk, dks, dkRows, frz, loOf, hiOf, lenOf, rowsOf, nilV, lenV, putAt, views, viewsOk, CK.av, CK.ok, AV.cells, AV.one, Value.oneCell', Value.cells, pureAbs, nrm, nrm.nrmL, hpAt, sh, AV.ren, AV.ren.renL, Blk.ren, fpOf, footO, foot, blkIds, AV.ids, AV.ids.idsL, Op.operands, Call.operands, List.find?_cons, List.find?_nil, Nat.reduceBEq, beq_self_eq_true, List.map_cons, List.map_nil, List.getD_cons_zero, List.getD_cons_succ, List.getD_nil, List.set_cons_zero, List.set_cons_succ, List.length_cons, List.length_nil, List.replicate, List.cons_append, List.nil_append, List.append_nil, List.getElem?_cons_zero, List.getElem?_cons_succ, List.getElem?_toArray, List.getElem?_nil, List.take_zero, List.take_succ_cons, List.take_nil, List.drop_zero, List.drop_succ_cons, List.drop_nil, List.headD_cons, List.tail_cons, List.flatten_cons, List.flatten_nil, List.flatMap_cons, List.flatMap_nil, List.toList_toArray, Array.toList_append, Option.bind_some, Option.map_some, Option.map_none, Option.isSome_some, List.all_nil, List.all_cons, Bool.and_self, Bool.and_true, Bool.true_and, true_and, and_true, ↓reduceIte, List.size_toArray, Bool.false_eq_true, Bool.true_eq_false, false_implies, true_implies, Bool.not_true, Bool.not_false, and_self, implies_true, decide_true, decide_false, Nat.reduceAdd, Nat.reduceMul, Nat.reduceLT, Nat.reduceSub, Nat.reduceLeDiff, Nat.reduceEqDiff, eq_self, ne_eq, not_false_eq_true, false_and, and_false, reduceCtorEq, List.filter_nil, List.filter_cons, List.isEmpty_nil, List.isEmpty_cons, bne_self_eq_false, Nat.reduceBneDiff, Nat.lt_add_one, Nat.zero_lt_succ, List.append_assoc, Nat.zero_le, and_self_iff, Int.reduceToNat, List.any_nil, List.any_cons, List.filterMap_nil, List.filterMap_cons, List.contains_nil, List.contains_cons, Bool.or_false, Bool.false_or, Bool.or_true, Bool.true_or, Bool.false_and, Bool.and_false, decide_eq_true_eq, decide_eq_false_iff_not, beq_iff_eq, Int.toNat_natCast]
    repeat' split
    all_goals (refine ⟨_, [], rfl, ⟨⟨⟨?_, rfl, rfl⟩, trivial⟩, by simp [hpAt, fitH], by simp [hpAt]⟩⟩; refine congrArg (fun b => AV.v (Value.bool b)) ?_; first | rfl | (rw [Bool.eq_iff_iff]; simp only [decide_eq_true_eq, inZ, Bool.and_eq_true, Bool.or_eq_true, bne_iff_ne, Bool.false_eq_true, beq_eq_false_iff_ne, beq_iff_eq, ne_eq, decide_eq_false_iff_not, Bool.not_eq_eq_eq_not, Bool.not_true, Bool.not_false, false_iff, iff_false, true_iff, iff_true] at *; omega))
  · cases hg
def eqs : List (FuncId × Abs) := [(33, pureAbs g_eqByteS)]
theorem eqs_ok : ∀ p ∈ eqs, CallOk Try.prog p.1 p.2 := by
  intro p hp
  simp only [eqs, List.mem_cons, List.not_mem_nil, or_false] at hp
  rcases hp with rfl
  · exact eqByteS_ok.call
set_option maxRecDepth 100000 in
theorem eqNearHeld_ok : PureOk Try.prog 51 g_eqH := by
  refine PureOk.of_vc (G := eqs) eqs_ok mixed Try.func51 (by kernel_rfl) rfl ?_
  intro args cnd r bs hg hc
  unfold g_eqH at hg
  split at hg
  · rename_i a sz rows a' sz' rows'
    cases hg
    obtain ⟨⟨xs, rfl, hx⟩, ys, rfl, hy⟩ := hc
    rw [bytesOf_rows, bytesOf_rows]
    refine ⟨⟨rfl, by simp, by simp [AV.ids, AV.ids.idsL]⟩, [.agg [.v (.int .i64 a), .l 1 (rowsOfBytes xs)], .agg [.v (.int .i64 a'), .l 1 (rowsOfBytes ys)]], rfl, fun w vs h => CvL.ok (.cons (.cons (.refl _) (.cons (.l _ _ _ (rowsOf_w xs)) .nil)) (.cons (.cons (.refl _) (.cons (.l _ _ _ (rowsOf_w ys)) .nil)) .nil)) h, ?_⟩
    simp (maxSteps := 3000000) only [Try.f51, eqs, g_eqByteS, bytesOf_rows, tY2, tY3, tY4, tY5, tY9, tY12, tY21, tY22, tY23, tY24, tY25, tY26, tY27, tY29, tY30, tY31, tY32, tY33, tY37, tY49, tY50, tY51, tY52, tY53, tY68, tY70, tY87, tY96, Try.underlying2, Try.underlying3, Try.underlying4, Try.underlying5, Try.underlying9, Try.underlying12, Try.underlying21, Try.underlying22, Try.underlying23, Try.underlying24, Try.underlying25, Try.underlying26, Try.underlying27, Try.underlying29, Try.underlying30, Try.underlying31, Try.underlying32, Try.underlying33, Try.underlying37, Try.underlying49, Try.underlying50, Try.underlying51, Try.underlying52, Try.underlying53, Try.underlying68, Try.underlying70, Try.underlying87, Try.underlying96, e_skip, e_label, e_ret, e_exit, e_seq, e_cond, e_block, e_region, seqK_normal, seqK_ret, seqK_exit, blkK_normal, blkK_ret, blkK_exit, condK_some, regK_true, regK_false, e_nil, e_cons, gateK_go, gateK_skip, gateK_ask, pickK_some, exK_some, x_pick, x_move, x_assign, x_alloc, x_box, x_build, x_buildSlice, x_load, x_store, x_binOp, x_unOp, x_convert, x_makeSlice, x_slice, x_fieldAddr, x_field, x_indexAddr, x_extract, x_nilCheck, x_call, x_len, x_append, x_min, oMin, x_copy, oCopy, eqAVs, callK_some, done_ret, done_normal, doneO_ret, doneO_normal, endsO_one, endsO_nil, endsO_more, ownAbs, frzAbs, leafs, leafs.leafsL, uniq, idxOf, bk, zipB, Blk.liveB, gate_none, gate_some, gateS_none, gateS_some, gateV_bool, gateV_undef, boolOf, evA, putT, refn, fpD, oBin, oUn, upsl, upl, up, ups, lk, dstsOf, resL, resA, packA, oLoadQ, oLoadKid, oStoreQ, oStoreTree, oBuildSliceQ, oBuildTree, oAppendQ, oAppendTree, isTr, isTrP, tkd, tkds, tkRows, ownOf, nodupB, deadL, treeOf, kidAbs, kidBlk, kidRows, TK.isCell, D.toL, oLoad, oStore, oAlloc, oBox, oBuild, oBuildSlice, oMake, oAppend, oIndexAddr, oFieldAddr, oField, oExtract, oNil, oSlice, oLen, oConvert, rowLoad, fillA, fillR, slB, dk, dks, dkRows, frz, loOf, hiOf, lenOf, rowsOf, nilV, lenV, putAt, views, viewsOk, CK.av, CK.ok, AV.cells, AV.one, Value.oneCell', Value.cells, pureAbs, nrm, nrm.nrmL, hpAt, sh, AV.ren, AV.ren.renL, Blk.ren, fpOf, footO, foot, blkIds, AV.ids, AV.ids.idsL, Op.operands, Call.operands, List.find?_cons, List.find?_nil, Nat.reduceBEq, beq_self_eq_true, List.map_cons, List.map_nil, List.getD_cons_zero, List.getD_cons_succ, List.getD_nil, List.set_cons_zero, List.set_cons_succ, List.length_cons, List.length_nil, List.replicate, List.cons_append, List.nil_append, List.append_nil, List.getElem?_cons_zero, List.getElem?_cons_succ, List.getElem?_toArray, List.getElem?_nil, List.take_zero, List.take_succ_cons, List.take_nil, List.drop_zero, List.drop_succ_cons, List.drop_nil, List.headD_cons, List.tail_cons, List.flatten_cons, List.flatten_nil, List.flatMap_cons, List.flatMap_nil, List.toList_toArray, Array.toList_append, Option.bind_some, Option.map_some, Option.map_none, Option.isSome_some, List.all_nil, List.all_cons, Bool.and_self, Bool.and_true, Bool.true_and, true_and, and_true, ↓reduceIte, List.size_toArray, Bool.false_eq_true, Bool.true_eq_false, false_implies, true_implies, Bool.not_true, Bool.not_false, and_self, implies_true, decide_true, decide_false, Nat.reduceAdd, Nat.reduceMul, Nat.reduceLT, Nat.reduceSub, Nat.reduceLeDiff, Nat.reduceEqDiff, eq_self, ne_eq, not_false_eq_true, false_and, and_false, reduceCtorEq, List.filter_nil, List.filter_cons, List.isEmpty_nil, List.isEmpty_cons, bne_self_eq_false, Nat.reduceBneDiff, Nat.lt_add_one, Nat.zero_lt_succ, List.append_assoc, Nat.zero_le, and_self_iff, Int.reduceToNat, List.any_nil, List.any_cons, List.filterMap_nil, List.filterMap_cons, List.contains_nil, List.contains_cons, Bool.or_false, Bool.false_or, Bool.or_true, Bool.true_or, Bool.false_and, Bool.and_false, decide_eq_true_eq, decide_eq_false_iff_not, beq_iff_eq, Int.toNat_natCast]
    by_cases h1 : a = a'
    · rw [if_neg (by simp [h1])]
      refine ⟨⟨⟨_, rfl, hx⟩, _, rfl, hy⟩, ?_⟩
      rw [show (a == a') = true from by simp [h1], Bool.true_and]
      by_cases h2 : (xs == ys) = true
      · rw [if_neg (by simp only [h2]; simp), h2]
        (refine ⟨_, [], rfl, ⟨⟨⟨?_, rfl, rfl⟩, trivial⟩, by simp [hpAt, fitH], by simp [hpAt]⟩⟩; refine congrArg (fun b => AV.v (Value.bool b)) ?_; first | rfl | (rw [Bool.eq_iff_iff]; simp only [decide_eq_true_eq, frB, inZ, Bool.false_eq_true, beq_eq_false_iff_ne, beq_iff_eq, ne_eq, decide_eq_false_iff_not, Bool.not_eq_eq_eq_not, Bool.not_true, Bool.not_false, false_iff, iff_false, true_iff, iff_true] at *; omega))
      · rw [Bool.not_eq_true] at h2
        rw [if_pos (by simp only [h2]; rfl), h2]
        (refine ⟨_, [], rfl, ⟨⟨⟨?_, rfl, rfl⟩, trivial⟩, by simp [hpAt, fitH], by simp [hpAt]⟩⟩; refine congrArg (fun b => AV.v (Value.bool b)) ?_; first | rfl | (rw [Bool.eq_iff_iff]; simp only [decide_eq_true_eq, frB, inZ, Bool.false_eq_true, beq_eq_false_iff_ne, beq_iff_eq, ne_eq, decide_eq_false_iff_not, Bool.not_eq_eq_eq_not, Bool.not_true, Bool.not_false, false_iff, iff_false, true_iff, iff_true] at *; omega))
    · rw [if_pos (by simp [h1]), show (a == a') = false from by simp [h1], Bool.false_and]
      (refine ⟨_, [], rfl, ⟨⟨⟨?_, rfl, rfl⟩, trivial⟩, by simp [hpAt, fitH], by simp [hpAt]⟩⟩; refine congrArg (fun b => AV.v (Value.bool b)) ?_; first | rfl | (rw [Bool.eq_iff_iff]; simp only [decide_eq_true_eq, frB, inZ, Bool.false_eq_true, beq_eq_false_iff_ne, beq_iff_eq, ne_eq, decide_eq_false_iff_not, Bool.not_eq_eq_eq_not, Bool.not_true, Bool.not_false, false_iff, iff_false, true_iff, iff_true] at *; omega))
  · cases hg
end Go.Proofs.Ytheikjkfffepnaa

namespace Go.Proofs.Ytheikjkfffepnaa
open Go.RowKit
set_option linter.unusedSimpArgs false
set_option linter.unusedVariables false

def g_eqES : PC := fun args => match args with
  | [.l _ rows, .l _ rows'] => some ((∃ ks, rows = kRows ks ∧ ks.length ≤ 1099511627776) ∧ ∃ ks, rows' = kRows ks ∧ ks.length ≤ 1099511627776, .v (.bool (kEq (ksOf rows) (ksOf rows'))), [])
  | _ => none
def hLow (hs : List HE) : Prop := hs.length ≤ 1099511627776 ∧ ∀ h ∈ hs, h.d.length ≤ 140737488355328
def g_eqHS : PC := fun args => match args with
  | [.l _ rows, .l _ rows'] => some ((∃ ks, rows = hRows ks ∧ hLow ks) ∧ ∃ ks, rows' = hRows ks ∧ hLow ks, .v (.bool (hEq (hsOf rows) (hsOf rows'))), [])
  | _ => none
def eqs2 : List (FuncId × Abs) := [(50, pureAbs g_eqE), (51, pureAbs g_eqH)]
theorem eqs2_ok : ∀ p ∈ eqs2, CallOk Try.prog p.1 p.2 := by
  intro p hp
  simp only [eqs2, List.mem_cons, List.not_mem_nil, or_false] at hp
  rcases hp with rfl | rfl
  · exact eqNearEntry_ok.call
  · exact eqNearHeld_ok.call
set_option maxRecDepth 100000 in
theorem eqNearEntryS_ok : PureOk Try.prog 31 g_eqES := by
  refine PureOk.of_vc (G := eqs2) eqs2_ok mixed Try.func31 (by kernel_rfl) rfl ?_
  intro args cnd r bs hg hc
  unfold g_eqES at hg
  split at hg
  · rename_i sz rows sz' rows'
    cases hg
    obtain ⟨⟨ks, rfl, hl⟩, ks', rfl, hl'⟩ := hc
    rw [ksOf_rows, ksOf_rows]
    refine ⟨⟨rfl, by simp, by simp [AV.ids]⟩, [.l 3 (kRows ks), .l 3 (kRows ks')], rfl, fun w vs h => CvL.ok (.cons (.l _ _ _ (kRows_w ks)) (.cons (.l _ _ _ (kRows_w ks')) .nil)) h, ?_⟩
    simp (maxSteps := 3000000) only [Try.f31, eqs2, kRows_len, tY2, tY3, tY4, tY5, tY9, tY12, tY21, tY22, tY23, tY24, tY25, tY26, tY27, tY29, tY30, tY31, tY32, tY33, tY37, tY49, tY50, tY51, tY52, tY53, tY68, tY70, tY87, tY96, Try.underlying2, Try.underlying3, Try.underlying4, Try.underlying5, Try.underlying9, Try.underlying12, Try.underlying21, Try.underlying22, Try.underlying23, Try.underlying24, Try.underlying25, Try.underlying26, Try.underlying27, Try.underlying29, Try.underlying30, Try.underlying31, Try.underlying32, Try.underlying33, Try.underlying37, Try.underlying49, Try.underlying50, Try.underlying51, Try.underlying52, Try.underlying53, Try.underlying68, Try.underlying70, Try.underlying87, Try.underlying96, e_skip, e_label, e_ret, e_exit, e_seq, e_cond, e_block, e_region, seqK_normal, seqK_ret, seqK_exit, blkK_normal, blkK_ret, blkK_exit, condK_some, regK_true, regK_false, e_nil, e_cons, gateK_go, gateK_skip, gateK_ask, pickK_some, exK_some, x_pick, x_move, x_assign, x_alloc, x_box, x_build, x_buildSlice, x_load, x_store, x_binOp, x_unOp, x_convert, x_makeSlice, x_slice, x_fieldAddr, x_field, x_indexAddr, x_extract, x_nilCheck, x_call, x_len, x_append, x_min, oMin, x_copy, oCopy, eqAVs, callK_some, done_ret, done_normal, doneO_ret, doneO_normal, endsO_one, endsO_nil, endsO_more, ownAbs, frzAbs, leafs, leafs.leafsL, uniq, idxOf, bk, zipB, Blk.liveB, gate_none, gate_some, gateS_none, gateS_some, gateV_bool, gateV_undef, boolOf, evA, putT, refn, fpD, oBin, oUn, upsl, upl, up, ups, lk, dstsOf, resL, resA, packA, oLoadQ, oLoadKid, oStoreQ, oStoreTree, oBuildSliceQ, oBuildTree, oAppendQ, oAppendTree, isTr, isTrP, tkd, tkds, tkRows, ownOf, nodupB, deadL, treeOf, kidAbs, kidBlk, kidRows, TK.isCell, D.toL, oLoad, oStore, oAlloc, oBox, oBuild, oBuildSlice, oMake, oAppend, oIndexAddr, oFieldAddr, oField, oExtract, oNil, oSlice, oLen, oConvert, rowLoad, fillA, fillR, slB, dk, dks, dkRows, frz, loOf, hiOf, lenOf, rowsOf, nilV, lenV, putAt, views, viewsOk, CK.av, CK.ok, AV.cells, AV.one, Value.oneCell', Value.cells, pureAbs, nrm, nrm.nrmL, hpAt, sh, AV.ren, AV.ren.renL, Blk.ren, fpOf, footO, foot, blkIds, AV.ids, AV.ids.idsL, Op.operands, Call.operands, List.find?_cons, List.find?_nil, Nat.reduceBEq, beq_self_eq_true, List.map_cons, List.map_nil, List.getD_cons_zero, List.getD_cons_succ, List.getD_nil, List.set_cons_zero, List.set_cons_succ, List.length_cons, List.length_nil, List.replicate, List.cons_append, List.nil_append, List.append_nil, List.getElem?_cons_zero, List.getElem?_cons_succ, List.getElem?_toArray, List.getElem?_nil, List.take_zero, List.take_succ_cons, List.take_nil, List.drop_zero, List.drop_succ_cons, List.drop_nil, List.headD_cons, List.tail_cons, List.flatten_cons, List.flatten_nil, List.flatMap_cons, List.flatMap_nil, List.toList_toArray, Array.toList_append, Option.bind_some, Option.map_some, Option.map_none, Option.isSome_some, List.all_nil, List.all_cons, Bool.and_self, Bool.and_true, Bool.true_and, true_and, and_true, ↓reduceIte, List.size_toArray, Bool.false_eq_true, Bool.true_eq_false, false_implies, true_implies, Bool.not_true, Bool.not_false, and_self, implies_true, decide_true, decide_false, Nat.reduceAdd, Nat.reduceMul, Nat.reduceLT, Nat.reduceSub, Nat.reduceLeDiff, Nat.reduceEqDiff, eq_self, ne_eq, not_false_eq_true, false_and, and_false, reduceCtorEq, List.filter_nil, List.filter_cons, List.isEmpty_nil, List.isEmpty_cons, bne_self_eq_false, Nat.reduceBneDiff, Nat.lt_add_one, Nat.zero_lt_succ, List.append_assoc, Nat.zero_le, and_self_iff, Int.reduceToNat, List.any_nil, List.any_cons, List.filterMap_nil, List.filterMap_cons, List.contains_nil, List.contains_cons, Bool.or_false, Bool.false_or, Bool.or_true, Bool.true_or, Bool.false_and, Bool.and_false, decide_eq_true_eq, decide_eq_false_iff_not, beq_iff_eq, Int.toNat_natCast]
    by_cases hne : ks.length = ks'.length
    · rw [if_neg (by simp [hne])]
      refine e_loop _ _ _ _ _ _ _ _ (fun k : Nat => [.l 3 (kRows ks), .l 3 (kRows ks'), .any, .any, .any, .v (.int .i64 (k : Int))] ++ List.replicate (Try.f31.ntmps - 6) .any) (fun _ => []) (fun k => k ≤ ks.length ∧ kEq ks ks' = kEq (ks.drop k) (ks'.drop k)) (fun k => ks.length - k) 0 (fun k => by simp) ⟨0, [], ⟨by omega, rfl⟩, ?_, by simp [keepIds]⟩ fun k ⟨hk, hinv⟩ => ?_
      · simp only [Try.f31]
        (refine ⟨?_, ?_, ?_⟩ <;> simp [fitT, fit1, fitH, fitB, trE, emptyB, rn, lk, AV.ren, AV.ren.renL, Blk.ren, blkIds, blkPids, AV.ids, AV.ids.idsL, AV.pids, AV.pids.pidsL, Blk.there])
      · have w2 : IntKind.i64.wrap ((k : Int) + 1) = ((k + 1 : Nat) : Int) := by rw [wrap_id] <;> omega
        by_cases h : k < ks.length
        · have h' : k < ks'.length := by omega
          have hrow := kRows_get ks k h
          have hrow' := kRows_get ks' k h'
          have hlt : ((k : Int) < (ks.length : Int)) = True := eq_true (by omega)
          have hlt' : ((k : Int) < (ks'.length : Int)) = True := eq_true (by omega)
          have h0 : (0 ≤ (k : Int)) = True := eq_true (by omega)
          rw [drop_at _ _ h, drop_at _ _ h', kEq] at hinv

          simp (maxSteps := 3000000) only [Try.f31, eqs2, g_eqE, g_eqH, kRows_len, hrow, hrow', hlt, hlt', h0, D.toI, D.toL, bytesOf_rows, tY2, tY3, tY4, tY5, tY9, tY12, tY21, tY22, tY23, tY24, tY25, tY26, tY27, tY29, tY30, tY31, tY32, tY33, tY37, tY49, tY50, tY51, tY52, tY53, tY68, tY70, tY87, tY96, Try.underlying2, Try.underlying3, Try.underlying4, Try.underlying5, Try.underlying9, Try.underlying12, Try.underlying21, Try.underlying22, Try.underlying23, Try.underlying24, Try.underlying25, Try.underlying26, Try.underlying27, Try.underlying29, Try.underlying30, Try.underlying31, Try.underlying32, Try.underlying33, Try.underlying37, Try.underlying49, Try.underlying50, Try.underlying51, Try.underlying52, Try.underlying53, Try.underlying68, Try.underlying70, Try.underlying87, Try.underlying96, e_skip, e_label, e_ret, e_exit, e_seq, e_cond, e_block, e_region, seqK_normal, seqK_ret, seqK_exit, blkK_normal, blkK_ret, blkK_exit, condK_some, regK_true, regK_false, e_nil, e_cons, gateK_go, gateK_skip, gateK_ask, pickK_some, exK_some, x_pick, x_move, x_assign, x_alloc, x_box, x_build, x_buildSlice, x_load, x_store, x_binOp, x_unOp, x_convert, x_makeSlice, x_slice, x_fieldAddr, x_field, x_indexAddr, x_extract, x_nilCheck, x_call, x_len, x_append, x_min, oMin, x_copy, oCopy, eqAVs, callK_some, done_ret, done_normal, doneO_ret, doneO_normal, endsO_one, endsO_nil, endsO_more, ownAbs, frzAbs, leafs, leafs.leafsL, uniq, idxOf, bk, zipB, Blk.liveB, gate_none, gate_some, gateS_none, gateS_some, gateV_bool, gateV_undef, boolOf, evA, putT, refn, fpD, oBin, oUn, upsl, upl, up, ups, lk, dstsOf, resL, resA, packA, oLoadQ, oLoadKid, oStoreQ, oStoreTree, oBuildSliceQ, oBuildTree, oAppendQ, oAppendTree, isTr, isTrP, tkd, tkds, tkRows, ownOf, nodupB, deadL, treeOf, kidAbs, kidBlk, kidRows, TK.isCell, D.toL, oLoad, oStore, oAlloc, oBox, oBuild, oBuildSlice, oMake, oAppend, oIndexAddr, oFieldAddr, oField, oExtract, oNil, oSlice, oLen, oConvert, rowLoad, fillA, fillR, slB, dk, dks, dkRows, frz, loOf, hiOf, lenOf, rowsOf, nilV, lenV, putAt, views, viewsOk, CK.av, CK.ok, AV.cells, AV.one, Value.oneCell', Value.cells, pureAbs, nrm, nrm.nrmL, hpAt, sh, AV.ren, AV.ren.renL, Blk.ren, fpOf, footO, foot, blkIds, AV.ids, AV.ids.idsL, Op.operands, Call.operands, List.find?_cons, List.find?_nil, Nat.reduceBEq, beq_self_eq_true, List.map_cons, List.map_nil, List.getD_cons_zero, List.getD_cons_succ, List.getD_nil, List.set_cons_zero, List.set_cons_succ, List.length_cons, List.length_nil, List.replicate, List.cons_append, List.nil_append, List.append_nil, List.getElem?_cons_zero, List.getElem?_cons_succ, List.getElem?_toArray, List.getElem?_nil, List.take_zero, List.take_succ_cons, List.take_nil, List.drop_zero, List.drop_succ_cons, List.drop_nil, List.headD_cons, List.tail_cons, List.flatten_cons, List.flatten_nil, List.flatMap_cons, List.flatMap_nil, List.toList_toArray, Array.toList_append, Option.bind_some, Option.map_some, Option.map_none, Option.isSome_some, List.all_nil, List.all_cons, Bool.and_self, Bool.and_true, Bool.true_and, true_and, and_true, ↓reduceIte, List.size_toArray, Bool.false_eq_true, Bool.true_eq_false, false_implies, true_implies, Bool.not_true, Bool.not_false, and_self, implies_true, decide_true, decide_false, Nat.reduceAdd, Nat.reduceMul, Nat.reduceLT, Nat.reduceSub, Nat.reduceLeDiff, Nat.reduceEqDiff, eq_self, ne_eq, not_false_eq_true, false_and, and_false, reduceCtorEq, List.filter_nil, List.filter_cons, List.isEmpty_nil, List.isEmpty_cons, bne_self_eq_false, Nat.reduceBneDiff, Nat.lt_add_one, Nat.zero_lt_succ, List.append_assoc, Nat.zero_le, and_self_iff, Int.reduceToNat, List.any_nil, List.any_cons, List.filterMap_nil, List.filterMap_cons, List.contains_nil, List.contains_cons, Bool.or_false, Bool.false_or, Bool.or_true, Bool.true_or, Bool.false_and, Bool.and_false, decide_eq_true_eq, decide_eq_false_iff_not, beq_iff_eq, Int.toNat_natCast, loopK_normal, loopK_exit, loopK_ret, w2]
          refine ⟨by kernel_rfl, ?_⟩
          by_cases he : (ks[k].a == ks'[k].a && ks[k].l == ks'[k].l && ks[k].u == ks'[k].u) = true
          · rw [if_neg (by simp only [he]; simp)]
            rw [he, Bool.true_and] at hinv
            refine ⟨k + 1, [], ⟨by omega, hinv⟩, by omega, ?_, by simp [keepIds]⟩
            (refine ⟨?_, ?_, ?_⟩ <;> simp [fitT, fit1, fitH, fitB, trE, emptyB, rn, lk, AV.ren, AV.ren.renL, Blk.ren, blkIds, blkPids, AV.ids, AV.ids.idsL, AV.pids, AV.pids.pidsL, Blk.there])
          · rw [Bool.not_eq_true] at he
            rw [if_pos (by simp only [he]; rfl)]
            rw [he, Bool.false_and] at hinv
            rw [hinv]
            (refine ⟨_, [], rfl, ⟨⟨⟨?_, rfl, rfl⟩, trivial⟩, by simp [hpAt, fitH], by simp [hpAt]⟩⟩; refine congrArg (fun b => AV.v (Value.bool b)) ?_; first | rfl | (rw [Bool.eq_iff_iff]; simp only [decide_eq_true_eq, frB, inZ, Bool.false_eq_true, beq_eq_false_iff_ne, beq_iff_eq, ne_eq, decide_eq_false_iff_not, Bool.not_eq_eq_eq_not, Bool.not_true, Bool.not_false, false_iff, iff_false, true_iff, iff_true] at *; omega))
        · have hlt : ((k : Int) < (ks.length : Int)) = False := eq_false (by omega)
          simp (maxSteps := 3000000) only [Try.f31, kRows_len, hlt, tY2, tY3, tY4, tY5, tY9, tY12, tY21, tY22, tY23, tY24, tY25, tY26, tY27, tY29, tY30, tY31, tY32, tY33, tY37, tY49, tY50, tY51, tY52, tY53, tY68, tY70, tY87, tY96, Try.underlying2, Try.underlying3, Try.underlying4, Try.underlying5, Try.underlying9, Try.underlying12, Try.underlying21, Try.underlying22, Try.underlying23, Try.underlying24, Try.underlying25, Try.underlying26, Try.underlying27, Try.underlying29, Try.underlying30, Try.underlying31, Try.underlying32, Try.underlying33, Try.underlying37, Try.underlying49, Try.underlying50, Try.underlying51, Try.underlying52, Try.underlying53, Try.underlying68, Try.underlying70, Try.underlying87, Try.underlying96, e_skip, e_label, e_ret, e_exit, e_seq, e_cond, e_block, e_region, seqK_normal, seqK_ret, seqK_exit, blkK_normal, blkK_ret, blkK_exit, condK_some, regK_true, regK_false, e_nil, e_cons, gateK_go, gateK_skip, gateK_ask, pickK_some, exK_some, x_pick, x_move, x_assign, x_alloc, x_box, x_build, x_buildSlice, x_load, x_store, x_binOp, x_unOp, x_convert, x_makeSlice, x_slice, x_fieldAddr, x_field, x_indexAddr, x_extract, x_nilCheck, x_call, x_len, x_append, x_min, oMin, x_copy, oCopy, eqAVs, callK_some, done_ret, done_normal, doneO_ret, doneO_normal, endsO_one, endsO_nil, endsO_more, ownAbs, frzAbs, leafs, leafs.leafsL, uniq, idxOf, bk, zipB, Blk.liveB, gate_none, gate_some, gateS_none, gateS_some, gateV_bool, gateV_undef, boolOf, evA, putT, refn, fpD, oBin, oUn, upsl, upl, up, ups, lk, dstsOf, resL, resA, packA, oLoadQ, oLoadKid, oStoreQ, oStoreTree, oBuildSliceQ, oBuildTree, oAppendQ, oAppendTree, isTr, isTrP, tkd, tkds, tkRows, ownOf, nodupB, deadL, treeOf, kidAbs, kidBlk, kidRows, TK.isCell, D.toL, oLoad, oStore, oAlloc, oBox, oBuild, oBuildSlice, oMake, oAppend, oIndexAddr, oFieldAddr, oField, oExtract, oNil, oSlice, oLen, oConvert, rowLoad, fillA, fillR, slB, dk, dks, dkRows, frz, loOf, hiOf, lenOf, rowsOf, nilV, lenV, putAt, views, viewsOk, CK.av, CK.ok, AV.cells, AV.one, Value.oneCell', Value.cells, pureAbs, nrm, nrm.nrmL, hpAt, sh, AV.ren, AV.ren.renL, Blk.ren, fpOf, footO, foot, blkIds, AV.ids, AV.ids.idsL, Op.operands, Call.operands, List.find?_cons, List.find?_nil, Nat.reduceBEq, beq_self_eq_true, List.map_cons, List.map_nil, List.getD_cons_zero, List.getD_cons_succ, List.getD_nil, List.set_cons_zero, List.set_cons_succ, List.length_cons, List.length_nil, List.replicate, List.cons_append, List.nil_append, List.append_nil, List.getElem?_cons_zero, List.getElem?_cons_succ, List.getElem?_toArray, List.getElem?_nil, List.take_zero, List.take_succ_cons, List.take_nil, List.drop_zero, List.drop_succ_cons, List.drop_nil, List.headD_cons, List.tail_cons, List.flatten_cons, List.flatten_nil, List.flatMap_cons, List.flatMap_nil, List.toList_toArray, Array.toList_append, Option.bind_some, Option.map_some, Option.map_none, Option.isSome_some, List.all_nil, List.all_cons, Bool.and_self, Bool.and_true, Bool.true_and, true_and, and_true, ↓reduceIte, List.size_toArray, Bool.false_eq_true, Bool.true_eq_false, false_implies, true_implies, Bool.not_true, Bool.not_false, and_self, implies_true, decide_true, decide_false, Nat.reduceAdd, Nat.reduceMul, Nat.reduceLT, Nat.reduceSub, Nat.reduceLeDiff, Nat.reduceEqDiff, eq_self, ne_eq, not_false_eq_true, false_and, and_false, reduceCtorEq, List.filter_nil, List.filter_cons, List.isEmpty_nil, List.isEmpty_cons, bne_self_eq_false, Nat.reduceBneDiff, Nat.lt_add_one, Nat.zero_lt_succ, List.append_assoc, Nat.zero_le, and_self_iff, Int.reduceToNat, List.any_nil, List.any_cons, List.filterMap_nil, List.filterMap_cons, List.contains_nil, List.contains_cons, Bool.or_false, Bool.false_or, Bool.or_true, Bool.true_or, Bool.false_and, Bool.and_false, decide_eq_true_eq, decide_eq_false_iff_not, beq_iff_eq, Int.toNat_natCast, loopK_normal, loopK_exit, loopK_ret, w2]
          rw [List.drop_eq_nil_of_le (by omega), List.drop_eq_nil_of_le (by omega), kEq] at hinv
          rw [hinv]
          (refine ⟨_, [], rfl, ⟨⟨⟨?_, rfl, rfl⟩, trivial⟩, by simp [hpAt, fitH], by simp [hpAt]⟩⟩; refine congrArg (fun b => AV.v (Value.bool b)) ?_; first | rfl | (rw [Bool.eq_iff_iff]; simp only [decide_eq_true_eq, frB, inZ, Bool.false_eq_true, beq_eq_false_iff_ne, beq_iff_eq, ne_eq, decide_eq_false_iff_not, Bool.not_eq_eq_eq_not, Bool.not_true, Bool.not_false, false_iff, iff_false, true_iff, iff_true] at *; omega))
    · rw [if_pos (by simp; omega), kEq_len hne]
      (refine ⟨_, [], rfl, ⟨⟨⟨?_, rfl, rfl⟩, trivial⟩, by simp [hpAt, fitH], by simp [hpAt]⟩⟩; refine congrArg (fun b => AV.v (Value.bool b)) ?_; first | rfl | (rw [Bool.eq_iff_iff]; simp only [decide_eq_true_eq, frB, inZ, Bool.false_eq_true, beq_eq_false_iff_ne, beq_iff_eq, ne_eq, decide_eq_false_iff_not, Bool.not_eq_eq_eq_not, Bool.not_true, Bool.not_false, false_iff, iff_false, true_iff, iff_true] at *; omega))
  · cases hg
set_option maxRecDepth 100000 in
theorem eqNearHeldS_ok : PureOk Try.prog 32 g_eqHS := by
  refine PureOk.of_vc (G := eqs2) eqs2_ok mixed Try.func32 (by kernel_rfl) rfl ?_
  intro args cnd r bs hg hc
  unfold g_eqHS at hg
  split at hg
  · rename_i sz rows sz' rows'
    cases hg
    obtain ⟨⟨ks, rfl, hl, hd⟩, ks', rfl, hl', hd'⟩ := hc
    rw [hsOf_rows, hsOf_rows]
    refine ⟨⟨rfl, by simp, by simp [AV.ids]⟩, [.l 2 (hRows ks), .l 2 (hRows ks')], rfl, fun w vs h => CvL.ok (.cons (.l _ _ _ (hRows_w ks)) (.cons (.l _ _ _ (hRows_w ks')) .nil)) h, ?_⟩
    simp (maxSteps := 3000000) only [Try.f32, eqs2, hRows_len, tY2, tY3, tY4, tY5, tY9, tY12, tY21, tY22, tY23, tY24, tY25, tY26, tY27, tY29, tY30, tY31, tY32, tY33, tY37, tY49, tY50, tY51, tY52, tY53, tY68, tY70, tY87, tY96, Try.underlying2, Try.underlying3, Try.underlying4, Try.underlying5, Try.underlying9, Try.underlying12, Try.underlying21, Try.underlying22, Try.underlying23, Try.underlying24, Try.underlying25, Try.underlying26, Try.underlying27, Try.underlying29, Try.underlying30, Try.underlying31, Try.underlying32, Try.underlying33, Try.underlying37, Try.underlying49, Try.underlying50, Try.underlying51, Try.underlying52, Try.underlying53, Try.underlying68, Try.underlying70, Try.underlying87, Try.underlying96, e_skip, e_label, e_ret, e_exit, e_seq, e_cond, e_block, e_region, seqK_normal, seqK_ret, seqK_exit, blkK_normal, blkK_ret, blkK_exit, condK_some, regK_true, regK_false, e_nil, e_cons, gateK_go, gateK_skip, gateK_ask, pickK_some, exK_some, x_pick, x_move, x_assign, x_alloc, x_box, x_build, x_buildSlice, x_load, x_store, x_binOp, x_unOp, x_convert, x_makeSlice, x_slice, x_fieldAddr, x_field, x_indexAddr, x_extract, x_nilCheck, x_call, x_len, x_append, x_min, oMin, x_copy, oCopy, eqAVs, callK_some, done_ret, done_normal, doneO_ret, doneO_normal, endsO_one, endsO_nil, endsO_more, ownAbs, frzAbs, leafs, leafs.leafsL, uniq, idxOf, bk, zipB, Blk.liveB, gate_none, gate_some, gateS_none, gateS_some, gateV_bool, gateV_undef, boolOf, evA, putT, refn, fpD, oBin, oUn, upsl, upl, up, ups, lk, dstsOf, resL, resA, packA, oLoadQ, oLoadKid, oStoreQ, oStoreTree, oBuildSliceQ, oBuildTree, oAppendQ, oAppendTree, isTr, isTrP, tkd, tkds, tkRows, ownOf, nodupB, deadL, treeOf, kidAbs, kidBlk, kidRows, TK.isCell, D.toL, oLoad, oStore, oAlloc, oBox, oBuild, oBuildSlice, oMake, oAppend, oIndexAddr, oFieldAddr, oField, oExtract, oNil, oSlice, oLen, oConvert, rowLoad, fillA, fillR, slB, dk, dks, dkRows, frz, loOf, hiOf, lenOf, rowsOf, nilV, lenV, putAt, views, viewsOk, CK.av, CK.ok, AV.cells, AV.one, Value.oneCell', Value.cells, pureAbs, nrm, nrm.nrmL, hpAt, sh, AV.ren, AV.ren.renL, Blk.ren, fpOf, footO, foot, blkIds, AV.ids, AV.ids.idsL, Op.operands, Call.operands, List.find?_cons, List.find?_nil, Nat.reduceBEq, beq_self_eq_true, List.map_cons, List.map_nil, List.getD_cons_zero, List.getD_cons_succ, List.getD_nil, List.set_cons_zero, List.set_cons_succ, List.length_cons, List.length_nil, List.replicate, List.cons_append, List.nil_append, List.append_nil, List.getElem?_cons_zero, List.getElem?_cons_succ, List.getElem?_toArray, List.getElem?_nil, List.take_zero, List.take_succ_cons, List.take_nil, List.drop_zero, List.drop_succ_cons, List.drop_nil, List.headD_cons, List.tail_cons, List.flatten_cons, List.flatten_nil, List.flatMap_cons, List.flatMap_nil, List.toList_toArray, Array.toList_append, Option.bind_some, Option.map_some, Option.map_none, Option.isSome_some, List.all_nil, List.all_cons, Bool.and_self, Bool.and_true, Bool.true_and, true_and, and_true, ↓reduceIte, List.size_toArray, Bool.false_eq_true, Bool.true_eq_false, false_implies, true_implies, Bool.not_true, Bool.not_false, and_self, implies_true, decide_true, decide_false, Nat.reduceAdd, Nat.reduceMul, Nat.reduceLT, Nat.reduceSub, Nat.reduceLeDiff, Nat.reduceEqDiff, eq_self, ne_eq, not_false_eq_true, false_and, and_false, reduceCtorEq, List.filter_nil, List.filter_cons, List.isEmpty_nil, List.isEmpty_cons, bne_self_eq_false, Nat.reduceBneDiff, Nat.lt_add_one, Nat.zero_lt_succ, List.append_assoc, Nat.zero_le, and_self_iff, Int.reduceToNat, List.any_nil, List.any_cons, List.filterMap_nil, List.filterMap_cons, List.contains_nil, List.contains_cons, Bool.or_false, Bool.false_or, Bool.or_true, Bool.true_or, Bool.false_and, Bool.and_false, decide_eq_true_eq, decide_eq_false_iff_not, beq_iff_eq, Int.toNat_natCast]
    by_cases hne : ks.length = ks'.length
    · rw [if_neg (by simp [hne])]
      refine e_loop _ _ _ _ _ _ _ _ (fun k : Nat => [.l 2 (hRows ks), .l 2 (hRows ks'), .any, .any, .any, .v (.int .i64 (k : Int))] ++ List.replicate (Try.f32.ntmps - 6) .any) (fun _ => []) (fun k => k ≤ ks.length ∧ hEq ks ks' = hEq (ks.drop k) (ks'.drop k)) (fun k => ks.length - k) 0 (fun k => by simp) ⟨0, [], ⟨by omega, rfl⟩, ?_, by simp [keepIds]⟩ fun k ⟨hk, hinv⟩ => ?_
      · simp only [Try.f32]
        (refine ⟨?_, ?_, ?_⟩ <;> simp [fitT, fit1, fitH, fitB, trE, emptyB, rn, lk, AV.ren, AV.ren.renL, Blk.ren, blkIds, blkPids, AV.ids, AV.ids.idsL, AV.pids, AV.pids.pidsL, Blk.there])
      · have w2 : IntKind.i64.wrap ((k : Int) + 1) = ((k + 1 : Nat) : Int) := by rw [wrap_id] <;> omega
        by_cases h : k < ks.length
        · have h' : k < ks'.length := by omega
          have hrow := hRows_get ks k h
          have hrow' := hRows_get ks' k h'
          have hlt : ((k : Int) < (ks.length : Int)) = True := eq_true (by omega)
          have hlt' : ((k : Int) < (ks'.length : Int)) = True := eq_true (by omega)
          have h0 : (0 ≤ (k : Int)) = True := eq_true (by omega)
          rw [drop_at _ _ h, drop_at _ _ h', hEq] at hinv
          have hfk := hd ks[k] (List.getElem_mem h)
          have hfk' := hd' ks'[k] (List.getElem_mem h')
          simp (maxSteps := 3000000) only [Try.f32, eqs2, g_eqE, g_eqH, hRows_len, hrow, hrow', hlt, hlt', h0, D.toI, D.toL, bytesOf_rows, tY2, tY3, tY4, tY5, tY9, tY12, tY21, tY22, tY23, tY24, tY25, tY26, tY27, tY29, tY30, tY31, tY32, tY33, tY37, tY49, tY50, tY51, tY52, tY53, tY68, tY70, tY87, tY96, Try.underlying2, Try.underlying3, Try.underlying4, Try.underlying5, Try.underlying9, Try.underlying12, Try.underlying21, Try.underlying22, Try.underlying23, Try.underlying24, Try.underlying25, Try.underlying26, Try.underlying27, Try.underlying29, Try.underlying30, Try.underlying31, Try.underlying32, Try.underlying33, Try.underlying37, Try.underlying49, Try.underlying50, Try.underlying51, Try.underlying52, Try.underlying53, Try.underlying68, Try.underlying70, Try.underlying87, Try.underlying96, e_skip, e_label, e_ret, e_exit, e_seq, e_cond, e_block, e_region, seqK_normal, seqK_ret, seqK_exit, blkK_normal, blkK_ret, blkK_exit, condK_some, regK_true, regK_false, e_nil, e_cons, gateK_go, gateK_skip, gateK_ask, pickK_some, exK_some, x_pick, x_move, x_assign, x_alloc, x_box, x_build, x_buildSlice, x_load, x_store, x_binOp, x_unOp, x_convert, x_makeSlice, x_slice, x_fieldAddr, x_field, x_indexAddr, x_extract, x_nilCheck, x_call, x_len, x_append, x_min, oMin, x_copy, oCopy, eqAVs, callK_some, done_ret, done_normal, doneO_ret, doneO_normal, endsO_one, endsO_nil, endsO_more, ownAbs, frzAbs, leafs, leafs.leafsL, uniq, idxOf, bk, zipB, Blk.liveB, gate_none, gate_some, gateS_none, gateS_some, gateV_bool, gateV_undef, boolOf, evA, putT, refn, fpD, oBin, oUn, upsl, upl, up, ups, lk, dstsOf, resL, resA, packA, oLoadQ, oLoadKid, oStoreQ, oStoreTree, oBuildSliceQ, oBuildTree, oAppendQ, oAppendTree, isTr, isTrP, tkd, tkds, tkRows, ownOf, nodupB, deadL, treeOf, kidAbs, kidBlk, kidRows, TK.isCell, D.toL, oLoad, oStore, oAlloc, oBox, oBuild, oBuildSlice, oMake, oAppend, oIndexAddr, oFieldAddr, oField, oExtract, oNil, oSlice, oLen, oConvert, rowLoad, fillA, fillR, slB, dk, dks, dkRows, frz, loOf, hiOf, lenOf, rowsOf, nilV, lenV, putAt, views, viewsOk, CK.av, CK.ok, AV.cells, AV.one, Value.oneCell', Value.cells, pureAbs, nrm, nrm.nrmL, hpAt, sh, AV.ren, AV.ren.renL, Blk.ren, fpOf, footO, foot, blkIds, AV.ids, AV.ids.idsL, Op.operands, Call.operands, List.find?_cons, List.find?_nil, Nat.reduceBEq, beq_self_eq_true, List.map_cons, List.map_nil, List.getD_cons_zero, List.getD_cons_succ, List.getD_nil, List.set_cons_zero, List.set_cons_succ, List.length_cons, List.length_nil, List.replicate, List.cons_append, List.nil_append, List.append_nil, List.getElem?_cons_zero, List.getElem?_cons_succ, List.getElem?_toArray, List.getElem?_nil, List.take_zero, List.take_succ_cons, List.take_nil, List.drop_zero, List.drop_succ_cons, List.drop_nil, List.headD_cons, List.tail_cons, List.flatten_cons, List.flatten_nil, List.flatMap_cons, List.flatMap_nil, List.toList_toArray, Array.toList_append, Option.bind_some, Option.map_some, Option.map_none, Option.isSome_some, List.all_nil, List.all_cons, Bool.and_self, Bool.and_true, Bool.true_and, true_and, and_true, ↓reduceIte, List.size_toArray, Bool.false_eq_true, Bool.true_eq_false, false_implies, true_implies, Bool.not_true, Bool.not_false, and_self, implies_true, decide_true, decide_false, Nat.reduceAdd, Nat.reduceMul, Nat.reduceLT, Nat.reduceSub, Nat.reduceLeDiff, Nat.reduceEqDiff, eq_self, ne_eq, not_false_eq_true, false_and, and_false, reduceCtorEq, List.filter_nil, List.filter_cons, List.isEmpty_nil, List.isEmpty_cons, bne_self_eq_false, Nat.reduceBneDiff, Nat.lt_add_one, Nat.zero_lt_succ, List.append_assoc, Nat.zero_le, and_self_iff, Int.reduceToNat, List.any_nil, List.any_cons, List.filterMap_nil, List.filterMap_cons, List.contains_nil, List.contains_cons, Bool.or_false, Bool.false_or, Bool.or_true, Bool.true_or, Bool.false_and, Bool.and_false, decide_eq_true_eq, decide_eq_false_iff_not, beq_iff_eq, Int.toNat_natCast, loopK_normal, loopK_exit, loopK_ret, w2]
          refine ⟨⟨⟨_, rfl, hfk⟩, _, rfl, hfk'⟩, by kernel_rfl, ?_⟩
          by_cases he : (ks[k].a == ks'[k].a && ks[k].d == ks'[k].d) = true
          · rw [if_neg (by simp only [he]; simp)]
            rw [he, Bool.true_and] at hinv
            refine ⟨k + 1, [], ⟨by omega, hinv⟩, by omega, ?_, by simp [keepIds]⟩
            (refine ⟨?_, ?_, ?_⟩ <;> simp [fitT, fit1, fitH, fitB, trE, emptyB, rn, lk, AV.ren, AV.ren.renL, Blk.ren, blkIds, blkPids, AV.ids, AV.ids.idsL, AV.pids, AV.pids.pidsL, Blk.there])
          · rw [Bool.not_eq_true] at he
            rw [if_pos (by simp only [he]; rfl)]
            rw [he, Bool.false_and] at hinv
            rw [hinv]
            (refine ⟨_, [], rfl, ⟨⟨⟨?_, rfl, rfl⟩, trivial⟩, by simp [hpAt, fitH], by simp [hpAt]⟩⟩; refine congrArg (fun b => AV.v (Value.bool b)) ?_; first | rfl | (rw [Bool.eq_iff_iff]; simp only [decide_eq_true_eq, frB, inZ, Bool.false_eq_true, beq_eq_false_iff_ne, beq_iff_eq, ne_eq, decide_eq_false_iff_not, Bool.not_eq_eq_eq_not, Bool.not_true, Bool.not_false, false_iff, iff_false, true_iff, iff_true] at *; omega))
        · have hlt : ((k : Int) < (ks.length : Int)) = False := eq_false (by omega)
          simp (maxSteps := 3000000) only [Try.f32, hRows_len, hlt, tY2, tY3, tY4, tY5, tY9, tY12, tY21, tY22, tY23, tY24, tY25, tY26, tY27, tY29, tY30, tY31, tY32, tY33, tY37, tY49, tY50, tY51, tY52, tY53, tY68, tY70, tY87, tY96, Try.underlying2, Try.underlying3, Try.underlying4, Try.underlying5, Try.underlying9, Try.underlying12, Try.underlying21, Try.underlying22, Try.underlying23, Try.underlying24, Try.underlying25, Try.underlying26, Try.underlying27, Try.underlying29, Try.underlying30, Try.underlying31, Try.underlying32, Try.underlying33, Try.underlying37, Try.underlying49, Try.underlying50, Try.underlying51, Try.underlying52, Try.underlying53, Try.underlying68, Try.underlying70, Try.underlying87, Try.underlying96, e_skip, e_label, e_ret, e_exit, e_seq, e_cond, e_block, e_region, seqK_normal, seqK_ret, seqK_exit, blkK_normal, blkK_ret, blkK_exit, condK_some, regK_true, regK_false, e_nil, e_cons, gateK_go, gateK_skip, gateK_ask, pickK_some, exK_some, x_pick, x_move, x_assign, x_alloc, x_box, x_build, x_buildSlice, x_load, x_store, x_binOp, x_unOp, x_convert, x_makeSlice, x_slice, x_fieldAddr, x_field, x_indexAddr, x_extract, x_nilCheck, x_call, x_len, x_append, x_min, oMin, x_copy, oCopy, eqAVs, callK_some, done_ret, done_normal, doneO_ret, doneO_normal, endsO_one, endsO_nil, endsO_more, ownAbs, frzAbs, leafs, leafs.leafsL, uniq, idxOf, bk, zipB, Blk.liveB, gate_none, gate_some, gateS_none, gateS_some, gateV_bool, gateV_undef, boolOf, evA, putT, refn, fpD, oBin, oUn, upsl, upl, up, ups, lk, dstsOf, resL, resA, packA, oLoadQ, oLoadKid, oStoreQ, oStoreTree, oBuildSliceQ, oBuildTree, oAppendQ, oAppendTree, isTr, isTrP, tkd, tkds, tkRows, ownOf, nodupB, deadL, treeOf, kidAbs, kidBlk, kidRows, TK.isCell, D.toL, oLoad, oStore, oAlloc, oBox, oBuild, oBuildSlice, oMake, oAppend, oIndexAddr, oFieldAddr, oField, oExtract, oNil, oSlice, oLen, oConvert, rowLoad, fillA, fillR, slB, dk, dks, dkRows, frz, loOf, hiOf, lenOf, rowsOf, nilV, lenV, putAt, views, viewsOk, CK.av, CK.ok, AV.cells, AV.one, Value.oneCell', Value.cells, pureAbs, nrm, nrm.nrmL, hpAt, sh, AV.ren, AV.ren.renL, Blk.ren, fpOf, footO, foot, blkIds, AV.ids, AV.ids.idsL, Op.operands, Call.operands, List.find?_cons, List.find?_nil, Nat.reduceBEq, beq_self_eq_true, List.map_cons, List.map_nil, List.getD_cons_zero, List.getD_cons_succ, List.getD_nil, List.set_cons_zero, List.set_cons_succ, List.length_cons, List.length_nil, List.replicate, List.cons_append, List.nil_append, List.append_nil, List.getElem?_cons_zero, List.getElem?_cons_succ, List.getElem?_toArray, List.getElem?_nil, List.take_zero, List.take_succ_cons, List.take_nil, List.drop_zero, List.drop_succ_cons, List.drop_nil, List.headD_cons, List.tail_cons, List.flatten_cons, List.flatten_nil, List.flatMap_cons, List.flatMap_nil, List.toList_toArray, Array.toList_append, Option.bind_some, Option.map_some, Option.map_none, Option.isSome_some, List.all_nil, List.all_cons, Bool.and_self, Bool.and_true, Bool.true_and, true_and, and_true, ↓reduceIte, List.size_toArray, Bool.false_eq_true, Bool.true_eq_false, false_implies, true_implies, Bool.not_true, Bool.not_false, and_self, implies_true, decide_true, decide_false, Nat.reduceAdd, Nat.reduceMul, Nat.reduceLT, Nat.reduceSub, Nat.reduceLeDiff, Nat.reduceEqDiff, eq_self, ne_eq, not_false_eq_true, false_and, and_false, reduceCtorEq, List.filter_nil, List.filter_cons, List.isEmpty_nil, List.isEmpty_cons, bne_self_eq_false, Nat.reduceBneDiff, Nat.lt_add_one, Nat.zero_lt_succ, List.append_assoc, Nat.zero_le, and_self_iff, Int.reduceToNat, List.any_nil, List.any_cons, List.filterMap_nil, List.filterMap_cons, List.contains_nil, List.contains_cons, Bool.or_false, Bool.false_or, Bool.or_true, Bool.true_or, Bool.false_and, Bool.and_false, decide_eq_true_eq, decide_eq_false_iff_not, beq_iff_eq, Int.toNat_natCast, loopK_normal, loopK_exit, loopK_ret, w2]
          rw [List.drop_eq_nil_of_le (by omega), List.drop_eq_nil_of_le (by omega), hEq] at hinv
          rw [hinv]
          (refine ⟨_, [], rfl, ⟨⟨⟨?_, rfl, rfl⟩, trivial⟩, by simp [hpAt, fitH], by simp [hpAt]⟩⟩; refine congrArg (fun b => AV.v (Value.bool b)) ?_; first | rfl | (rw [Bool.eq_iff_iff]; simp only [decide_eq_true_eq, frB, inZ, Bool.false_eq_true, beq_eq_false_iff_ne, beq_iff_eq, ne_eq, decide_eq_false_iff_not, Bool.not_eq_eq_eq_not, Bool.not_true, Bool.not_false, false_iff, iff_false, true_iff, iff_true] at *; omega))
    · rw [if_pos (by simp; omega), hEq_len hne]
      (refine ⟨_, [], rfl, ⟨⟨⟨?_, rfl, rfl⟩, trivial⟩, by simp [hpAt, fitH], by simp [hpAt]⟩⟩; refine congrArg (fun b => AV.v (Value.bool b)) ?_; first | rfl | (rw [Bool.eq_iff_iff]; simp only [decide_eq_true_eq, frB, inZ, Bool.false_eq_true, beq_eq_false_iff_ne, beq_iff_eq, ne_eq, decide_eq_false_iff_not, Bool.not_eq_eq_eq_not, Bool.not_true, Bool.not_false, false_iff, iff_false, true_iff, iff_true] at *; omega))
  · cases hg
def g_eqN : PC := fun args => match args with
  | [.agg [.l _ rows, .l _ rows'], .agg [.l _ rows2, .l _ rows2']] => some ((∃ ks, rows = kRows ks ∧ ks.length ≤ 1099511627776) ∧ (∃ hs, rows' = hRows hs ∧ hLow hs) ∧ (∃ ks, rows2 = kRows ks ∧ ks.length ≤ 1099511627776) ∧ ∃ hs, rows2' = hRows hs ∧ hLow hs, .v (.bool (kEq (ksOf rows) (ksOf rows2) && hEq (hsOf rows') (hsOf rows2'))), [])
  | _ => none
def eqs3 : List (FuncId × Abs) := [(31, pureAbs g_eqES), (32, pureAbs g_eqHS)]
theorem eqs3_ok : ∀ p ∈ eqs3, CallOk Try.prog p.1 p.2 := by
  intro p hp
  simp only [eqs3, List.mem_cons, List.not_mem_nil, or_false] at hp
  rcases hp with rfl | rfl
  · exact eqNearEntryS_ok.call
  · exact eqNearHeldS_ok.call
set_option maxRecDepth 100000 in
theorem eqNear_ok : PureOk Try.prog 9 g_eqN := by
  refine PureOk.of_vc (G := eqs3) eqs3_ok mixed Try.func9 (by kernel_rfl) rfl ?_
  intro args cnd r bs hg hc
  unfold g_eqN at hg
  split at hg
  · rename_i sz rows sz' rows' sz2 rows2 sz2' rows2'
    cases hg
    obtain ⟨⟨ks, rfl, hk⟩, ⟨hs, rfl, hh⟩, ⟨ks2, rfl, hk2⟩, hs2, rfl, hh2⟩ := hc
    rw [ksOf_rows, hsOf_rows, ksOf_rows, hsOf_rows]
    refine ⟨⟨rfl, by simp, by simp [AV.ids, AV.ids.idsL]⟩, [.agg [.l 3 (kRows ks), .l 2 (hRows hs)], .agg [.l 3 (kRows ks2), .l 2 (hRows hs2)]], rfl, fun w vs h => CvL.ok (.cons (.cons (.l _ _ _ (kRows_w ks)) (.cons (.l _ _ _ (hRows_w hs)) .nil)) (.cons (.cons (.l _ _ _ (kRows_w ks2)) (.cons (.l _ _ _ (hRows_w hs2)) .nil)) .nil)) h, ?_⟩
    simp (maxSteps := 3000000) only [Try.f9, eqs3, g_eqES, g_eqHS, ksOf_rows, hsOf_rows, tY2, tY3, tY4, tY5, tY9, tY12, tY21, tY22, tY23, tY24, tY25, tY26, tY27, tY29, tY30, tY31, tY32, tY33, tY37, tY49, tY50, tY51, tY52, tY53, tY68, tY70, tY87, tY96, Try.underlying2, Try.underlying3, Try.underlying4, Try.underlying5, Try.underlying9, Try.underlying12, Try.underlying21, Try.underlying22, Try.underlying23, Try.underlying24, Try.underlying25, Try.underlying26, Try.underlying27, Try.underlying29, Try.underlying30, Try.underlying31, Try.underlying32, Try.underlying33, Try.underlying37, Try.underlying49, Try.underlying50, Try.underlying51, Try.underlying52, Try.underlying53, Try.underlying68, Try.underlying70, Try.underlying87, Try.underlying96, e_skip, e_label, e_ret, e_exit, e_seq, e_cond, e_block, e_region, seqK_normal, seqK_ret, seqK_exit, blkK_normal, blkK_ret, blkK_exit, condK_some, regK_true, regK_false, e_nil, e_cons, gateK_go, gateK_skip, gateK_ask, pickK_some, exK_some, x_pick, x_move, x_assign, x_alloc, x_box, x_build, x_buildSlice, x_load, x_store, x_binOp, x_unOp, x_convert, x_makeSlice, x_slice, x_fieldAddr, x_field, x_indexAddr, x_extract, x_nilCheck, x_call, x_len, x_append, x_min, oMin, x_copy, oCopy, eqAVs, callK_some, done_ret, done_normal, doneO_ret, doneO_normal, endsO_one, endsO_nil, endsO_more, ownAbs, frzAbs, leafs, leafs.leafsL, uniq, idxOf, bk, zipB, Blk.liveB, gate_none, gate_some, gateS_none, gateS_some, gateV_bool, gateV_undef, boolOf, evA, putT, refn, fpD, oBin, oUn, upsl, upl, up, ups, lk, dstsOf, resL, resA, packA, oLoadQ, oLoadKid, oStoreQ, oStoreTree, oBuildSliceQ, oBuildTree, oAppendQ, oAppendTree, isTr, isTrP, tkd, tkds, tkRows, ownOf, nodupB, deadL, treeOf, kidAbs, kidBlk, kidRows, TK.isCell, D.toL, oLoad, oStore, oAlloc, oBox, oBuild, oBuildSlice, oMake, oAppend, oIndexAddr, oFieldAddr, oField, oExtract, oNil, oSlice, oLen, oConvert, rowLoad, fillA, fillR, slB, dk, dks, dkRows, frz, loOf, hiOf, lenOf, rowsOf, nilV, lenV, putAt, views, viewsOk, CK.av, CK.ok, AV.cells, AV.one, Value.oneCell', Value.cells, pureAbs, nrm, nrm.nrmL, hpAt, sh, AV.ren, AV.ren.renL, Blk.ren, fpOf, footO, foot, blkIds, AV.ids, AV.ids.idsL, Op.operands, Call.operands, List.find?_cons, List.find?_nil, Nat.reduceBEq, beq_self_eq_true, List.map_cons, List.map_nil, List.getD_cons_zero, List.getD_cons_succ, List.getD_nil, List.set_cons_zero, List.set_cons_succ, List.length_cons, List.length_nil, List.replicate, List.cons_append, List.nil_append, List.append_nil, List.getElem?_cons_zero, List.getElem?_cons_succ, List.getElem?_toArray, List.getElem?_nil, List.take_zero, List.take_succ_cons, List.take_nil, List.drop_zero, List.drop_succ_cons, List.drop_nil, List.headD_cons, List.tail_cons, List.flatten_cons, List.flatten_nil, List.flatMap_cons, List.flatMap_nil, List.toList_toArray, Array.toList_append, Option.bind_some, Option.map_some, Option.map_none, Option.isSome_some, List.all_nil, List.all_cons, Bool.and_self, Bool.and_true, Bool.true_and, true_and, and_true, ↓reduceIte, List.size_toArray, Bool.false_eq_true, Bool.true_eq_false, false_implies, true_implies, Bool.not_true, Bool.not_false, and_self, implies_true, decide_true, decide_false, Nat.reduceAdd, Nat.reduceMul, Nat.reduceLT, Nat.reduceSub, Nat.reduceLeDiff, Nat.reduceEqDiff, eq_self, ne_eq, not_false_eq_true, false_and, and_false, reduceCtorEq, List.filter_nil, List.filter_cons, List.isEmpty_nil, List.isEmpty_cons, bne_self_eq_false, Nat.reduceBneDiff, Nat.lt_add_one, Nat.zero_lt_succ, List.append_assoc, Nat.zero_le, and_self_iff, Int.reduceToNat, List.any_nil, List.any_cons, List.filterMap_nil, List.filterMap_cons, List.contains_nil, List.contains_cons, Bool.or_false, Bool.false_or, Bool.or_true, Bool.true_or, Bool.false_and, Bool.and_false, decide_eq_true_eq, decide_eq_false_iff_not, beq_iff_eq, Int.toNat_natCast]
    refine ⟨⟨⟨_, rfl, hk⟩, _, rfl, hk2⟩, ?_⟩
    by_cases h1 : kEq ks ks2 = true
    · rw [if_neg (by simp only [h1]; simp), h1, Bool.true_and]
      refine ⟨⟨⟨_, rfl, hh⟩, _, rfl, hh2⟩, ?_⟩
      by_cases h2 : hEq hs hs2 = true
      · rw [if_neg (by simp only [h2]; simp), h2]
        (refine ⟨_, [], rfl, ⟨⟨⟨?_, rfl, rfl⟩, trivial⟩, by simp [hpAt, fitH], by simp [hpAt]⟩⟩; refine congrArg (fun b => AV.v (Value.bool b)) ?_; first | rfl | (rw [Bool.eq_iff_iff]; simp only [decide_eq_true_eq, frB, inZ, Bool.false_eq_true, beq_eq_false_iff_ne, beq_iff_eq, ne_eq, decide_eq_false_iff_not, Bool.not_eq_eq_eq_not, Bool.not_true, Bool.not_false, false_iff, iff_false, true_iff, iff_true] at *; omega))
      · rw [Bool.not_eq_true] at h2
        rw [if_pos (by simp only [h2]; rfl), h2]
        (refine ⟨_, [], rfl, ⟨⟨⟨?_, rfl, rfl⟩, trivial⟩, by simp [hpAt, fitH], by simp [hpAt]⟩⟩; refine congrArg (fun b => AV.v (Value.bool b)) ?_; first | rfl | (rw [Bool.eq_iff_iff]; simp only [decide_eq_true_eq, frB, inZ, Bool.false_eq_true, beq_eq_false_iff_ne, beq_iff_eq, ne_eq, decide_eq_false_iff_not, Bool.not_eq_eq_eq_not, Bool.not_true, Bool.not_false, false_iff, iff_false, true_iff, iff_true] at *; omega))
    · rw [Bool.not_eq_true] at h1
      rw [if_pos (by simp only [h1]; rfl), h1, Bool.false_and]
      (refine ⟨_, [], rfl, ⟨⟨⟨?_, rfl, rfl⟩, trivial⟩, by simp [hpAt, fitH], by simp [hpAt]⟩⟩; refine congrArg (fun b => AV.v (Value.bool b)) ?_; first | rfl | (rw [Bool.eq_iff_iff]; simp only [decide_eq_true_eq, frB, inZ, Bool.false_eq_true, beq_eq_false_iff_ne, beq_iff_eq, ne_eq, decide_eq_false_iff_not, Bool.not_eq_eq_eq_not, Bool.not_true, Bool.not_false, false_iff, iff_false, true_iff, iff_true] at *; omega))
  · cases hg

/-! the exact laws of NearOk and NearFind -/
def g_lawN : PC := fun args => match args with
  | [.agg [.l _ rows, .l _ rows']] => some ((∃ ks, rows = kRows ks ∧ ks.length ≤ 9223372036854775807) ∧ ∃ hs, rows' = hRows hs ∧ hFin hs, .v (.bool true), [])
  | _ => none
def g_lawN2 : PC := fun args => match args with
  | [.agg [.l _ rows, .l _ rows'], .v (.int .i64 a), .v (.int .i64 b)] => some ((∃ ks, rows = kRows ks ∧ ks.length ≤ 9223372036854775807) ∧ ∃ hs, rows' = hRows hs ∧ hFin hs, .v (.bool true), [])
  | _ => none
/-! what is handed in as a station -/
theorem wt_k {d : D} (h : WT (.sl [.int .i64, .int .i64, .int .i64]) d) : ∃ ks, d = .l 3 (kRows ks) ∧ ks.length ≤ maxLen := by
  obtain ⟨rows, rfl, hn, hr⟩ := wt_row h
  obtain ⟨ks, h1, _⟩ := map_of kRow (fun _ => True) rows fun r hm => by
    obtain ⟨h1, h2⟩ := hr r hm
    match r, h1 with
    | [x, y, z], _ =>
      obtain ⟨a, rfl, _⟩ := wt_int (h2 0 _ x rfl rfl)
      obtain ⟨b, rfl, _⟩ := wt_int (h2 1 _ y rfl rfl)
      obtain ⟨c, rfl, _⟩ := wt_int (h2 2 _ z rfl rfl)
      exact ⟨⟨a, b, c⟩, rfl, trivial⟩
  refine ⟨ks, by rw [h1]; rfl, ?_⟩
  rw [h1, List.length_map] at hn
  exact hn
theorem wt_h {d : D} (h : WT (.sl [.int .i64, .sl [.int .u8]]) d) : ∃ hs, d = .l 2 (hRows hs) ∧ hFin hs := by
  obtain ⟨rows, rfl, hn, hr⟩ := wt_row h
  obtain ⟨hs, h1, h2⟩ := map_of hRow (fun h => h.d.length ≤ 9223372036854775807) rows fun r hm => by
    obtain ⟨h1, h2⟩ := hr r hm
    match r, h1 with
    | [x, y], _ =>
      obtain ⟨a, rfl, _⟩ := wt_int (h2 0 _ x rfl rfl)
      obtain ⟨xs, rfl, hx⟩ := wt_bytes (h2 1 _ y rfl rfl)
      exact ⟨⟨a, xs⟩, rfl, Nat.le_trans hx (by decide)⟩
  refine ⟨hs, by rw [h1]; rfl, ?_, h2⟩
  rw [h1, List.length_map] at hn
  exact Nat.le_trans hn (by decide)
def nearKinds : List KD := [.sl [.int .i64, .int .i64, .int .i64], .sl [.int .i64, .sl [.int .u8]]]
theorem near_in {w : World} {ds : List D} {cs : Array Value} (h : Reads w nearKinds ds cs.toList) : ∃ ks hs, AVR w (Zold w) (fun _ => .none) (fun _ => nilS) (.agg [.l 3 (kRows ks), .l 2 (hRows hs)]) (.agg cs) ∧ ks.length ≤ 9223372036854775807 ∧ hFin hs := by
  obtain ⟨h1, h2, h3, h4⟩ := h
  obtain ⟨cs⟩ := cs
  match ds, h1, cs, h2 with
  | [x, y], _, [u, v], _ =>
    obtain ⟨ks, rfl, hk⟩ := wt_k (h3 0 _ x rfl rfl)
    obtain ⟨hs, rfl, hh⟩ := wt_h (h3 1 _ y rfl rfl)
    exact ⟨ks, hs, avr_agg (xs := [u, v]) (arel_cons (.l _ _ _ (h4 0 _ u rfl rfl)) (arel_cons (.l _ _ _ (h4 1 _ v rfl rfl)) arel_nil)), Nat.le_trans hk (by decide), hh⟩
end Go.Proofs.Ytheikjkfffepnaa
