import Derived.Test.YtfdgdffljaccdaaNc
import Derived.Test.YtfdgdffljaccdaaUd
namespace Go.Proofs.Ytfdgdffljaccdaa
open Go.RowKit
set_option linter.unusedSimpArgs false
set_option linter.unusedVariables false

/-! NearSend with memory of its own, and its exact law -/
def sendKs (ok : Bool) (ks : List KE) : List KE := if ok = true then ks else []
def sendHs (ok : Bool) (link : Int) (hs : List HE) (a : Int) (xs : List UInt8) : List HE := if ok = true then (if 0 ≤ link then hs else hs ++ [⟨a, xs⟩]) else []
def sendLk (ok : Bool) (link : Int) : Int := if ok = true then (if 0 ≤ link then link else -1) else -1
def sendSl (ok : Bool) (link : Int) (n : Nat) : AV := if ok = true then (if 0 ≤ link then .own 1 else if n < 4 then .own 1 else .sub 1 1 5) else .own 1
theorem sendSl_flat (ok : Bool) (link : Int) (n : Nat) : flatA (.tup [.agg [.own 0, sendSl ok link n], .v (.int .i64 (sendLk ok link))]) = true := by
  unfold sendSl
  repeat' split
  all_goals rfl
theorem sendSl_ids (ok : Bool) (link : Int) (n : Nat) : ∀ k ∈ (sendSl ok link n).ids, k < 2 := by
  intro k hk
  unfold sendSl at hk
  repeat' split at hk
  all_goals (simp [AV.ids] at hk; omega)
def g_sendT : PC := fun args => match args with
  | [.agg [.l _ rows, .l _ rows'], .v (.int .i64 a), .l _ rows2, .v (.int .i64 now)] => some ((∃ ks, rows = kRows ks ∧ ks.length ≤ 1048576) ∧ (∃ hs, rows' = hRows hs ∧ hMid hs) ∧ (∃ xs, rows2 = rowsOfBytes xs ∧ xs.length ≤ 1048576),
      .tup [.agg [.own 0, sendSl (sOk (ksOf rows) (hsOf rows') a rows2.length now) (nfV (ksOf rows) (hsOf rows') a now) rows'.length], .v (.int .i64 (sendLk (sOk (ksOf rows) (hsOf rows') a rows2.length now) (nfV (ksOf rows) (hsOf rows') a now)))],
      [.sl 74 3 (kRows (sendKs (sOk (ksOf rows) (hsOf rows') a rows2.length now) (ksOf rows))), .tr .whole 40 2 [.cell, .sl 5 1 [.cell]] (hRows (sendHs (sOk (ksOf rows) (hsOf rows') a rows2.length now) (nfV (ksOf rows) (hsOf rows') a now) (hsOf rows') a (bytesOfRows rows2)))])
  | _ => none
def nse : List (FuncId × Abs) := [(12, pureAbs g_nearOk), (50, pureAbs g_isPair), (51, pureAbs g_isNearTime), (16, pureAbs g_nearFind), (52, pureAbs g_nearCopiedT), (53, pureAbs g_knownCopied), (54, pureAbs g_heldWithT)]
theorem nse_ok : ∀ p ∈ nse, CallOk Try.prog p.1 p.2 := by
  intro p hp
  simp only [nse, List.mem_cons, List.not_mem_nil, or_false] at hp
  rcases hp with rfl | rfl | rfl | rfl | rfl | rfl | rfl
  · exact implNearOk_ok.call
  · exact isAddr_ok.call
  · exact isNearTime_ok.call
  · exact implNearFind_ok.call
  · exact nearCopiedT_ok.call
  · exact knownCopiedP_ok.call
  · exact heldWithT_ok.call
set_option maxHeartbeats 4000000 in
set_option maxRecDepth 100000 in
theorem implNearSendT_ok : PureOk Try.prog 19 g_sendT := by
  refine PureOk.of_vc (G := nse) nse_ok mixed Try.func19 (by kernel_rfl) rfl ?_
  intro args cnd r bs hg hc
  unfold g_sendT at hg
  split at hg
  · rename_i sz rows sz' rows' a sz2 rows2 now
    cases hg
    obtain ⟨⟨ks, rfl, hk⟩, ⟨hs, rfl, hh, hd⟩, xs, rfl, hx⟩ := hc
    rw [ksOf_rows, hsOf_rows, rowsOf_len, hRows_len, bytesOf_rows]
    refine ⟨⟨sendSl_flat _ _ _, by simpa [flatB] using kRows_flat _, by have := sendSl_ids (sOk ks hs a xs.length now) (nfV ks hs a now) hs.length; simpa [AV.ids, AV.ids.idsL] using this⟩, [.agg [.l 3 (kRows ks), .l 2 (hRows hs)], .v (.int .i64 a), .l 1 (rowsOfBytes xs), .v (.int .i64 now)], rfl, fun w vs h => CvL.ok (.cons (.cons (.l _ _ _ (kRows_w ks)) (.cons (.l _ _ _ (hRows_w hs)) .nil)) (.cons (.refl _) (.cons (.l _ _ _ (rowsOf_w xs)) (.cons (.refl _) .nil)))) h, ?_⟩
    have k1 : ∃ ks', kRows ks = kRows ks' ∧ ks'.length ≤ 1099511627776 := ⟨_, rfl, by omega⟩
    have k2 : ∃ hs', hRows hs = hRows hs' ∧ hs'.length ≤ 1099511627776 := ⟨_, rfl, by omega⟩
    have eH : hRows hs ++ [[D.v (.int .i64 a), D.l 1 (rowsOfBytes xs)]] = hRows (hs ++ [⟨a, xs⟩]) := hRows_app hs [⟨a, xs⟩]
    by_cases hs1 : sOk ks hs a xs.length now = true
    · have hok' := hs1
      simp only [sOk, Bool.and_eq_true, decide_eq_true_eq] at hok'
      obtain ⟨h1, h2, h3, h4⟩ := hok'
      have e1 : inZ a 0 65535 = true := by unfold inZ; exact decide_eq_true h2
      have e2 : inZ now 0 999980 = true := by unfold inZ; exact decide_eq_true h4
      have e3 : ((xs.length : Int) > 64) = False := eq_false (by omega)
      have hs4 := (nOkB_k h1).2.2.1
      have hcs : ((0 ≤ nfV ks hs a now) = True ∧ (hs.length < 4) = (hs.length < 4) ∧ heldWithR hs.length = heldWithR hs.length) ∨ ((0 ≤ nfV ks hs a now) = False ∧ (hs.length < 4) = True ∧ heldWithR hs.length = .own 0) ∨ ((0 ≤ nfV ks hs a now) = False ∧ (hs.length < 4) = False ∧ heldWithR hs.length = .sub 0 1 5) := by
        by_cases hl : 0 ≤ nfV ks hs a now
        · exact .inl ⟨eq_true hl, rfl, rfl⟩
        · by_cases hf : hs.length < 4
          · exact .inr (.inl ⟨eq_false hl, eq_true hf, by rw [heldWithR, if_pos hf]⟩)
          · exact .inr (.inr ⟨eq_false hl, eq_false hf, by rw [heldWithR, if_neg hf]⟩)
      rcases hcs with ⟨hl, -, -⟩ | ⟨hl, hf, hW⟩ | ⟨hl, hf, hW⟩
      · simp (maxSteps := 3000000) only [Try.f19, nse, g_nearOk, g_nearFind, g_isPair, g_isNearTime, g_nearCopiedT, g_knownCopied, g_heldWithT, ksOf_rows, hsOf_rows, kRows_len, hRows_len, rowsOf_len, bytesOf_rows, sendKs, sendHs, sendLk, sendSl, hs1, h1, e1, e2, e3, hl, ge_iff_le, tY2, tY3, tY4, tY5, tY9, tY12, tY21, tY22, tY23, tY24, tY25, tY26, tY39, tY40, tY42, tY43, tY46, tY52, tY53, tY54, tY55, tY64, tY73, tY74, tY95, tY96, tY100, tY102, tY113, tY122, Try.underlying2, Try.underlying3, Try.underlying4, Try.underlying5, Try.underlying9, Try.underlying12, Try.underlying21, Try.underlying22, Try.underlying23, Try.underlying24, Try.underlying25, Try.underlying26, Try.underlying39, Try.underlying40, Try.underlying42, Try.underlying43, Try.underlying46, Try.underlying52, Try.underlying53, Try.underlying54, Try.underlying55, Try.underlying64, Try.underlying73, Try.underlying74, Try.underlying95, Try.underlying96, Try.underlying100, Try.underlying102, Try.underlying113, Try.underlying122, e_skip, e_label, e_ret, e_exit, e_seq, e_cond, e_block, e_region, seqK_normal, seqK_ret, seqK_exit, blkK_normal, blkK_ret, blkK_exit, condK_some, regK_true, regK_false, e_nil, e_cons, gateK_go, gateK_skip, gateK_ask, pickK_some, exK_some, x_pick, x_move, x_assign, x_alloc, x_box, x_build, x_buildSlice, x_load, x_store, x_binOp, x_unOp, x_convert, x_makeSlice, x_slice, x_fieldAddr, x_field, x_indexAddr, x_extract, x_nilCheck, x_call, x_len, x_append, x_min, oMin, x_copy, oCopy, eqAVs, callK_some, done_ret, done_normal, doneO_ret, doneO_normal, endsO_one, endsO_nil, endsO_more, ownAbs, frzAbs, leafs, leafs.leafsL, uniq, idxOf, bk, zipB, Blk.liveB, gate_none, gate_some, gateS_none, gateS_some, gateV_bool, gateV_undef, boolOf, evA, putT, refn, fpD, oBin, oUn, upsl, upl, up, ups, lk, dstsOf, resL, resA, packA, oLoadQ, oLoadKid, oStoreQ, oStoreTree, oBuildSliceQ, oBuildTree, oAppendQ, oAppendTree, isTr, isTrP, tkd, tkds, tkRows, ownOf, nodupB, deadL, treeOf, kidAbs, kidBlk, kidRows, TK.isCell, D.toL, oLoad, oStore, oAlloc, oBox, oBuild, oBuildSlice, oMake, oAppend, oIndexAddr, oFieldAddr, oField, oExtract, oNil, oSlice, oLen, oConvert, rowLoad, fillA, fillR, slB, dk, dks, dkRows, frz, loOf, hiOf, lenOf, rowsOf, nilV, lenV, putAt, views, viewsOk, CK.av, CK.ok, AV.cells, AV.one, Value.oneCell', Value.cells, pureAbs, nrm, nrm.nrmL, hpAt, sh, AV.ren, AV.ren.renL, Blk.ren, fpOf, footO, foot, blkIds, AV.ids, AV.ids.idsL, Op.operands, Call.operands, List.find?_cons, List.find?_nil, Nat.reduceBEq, beq_self_eq_true, List.map_cons, List.map_nil, List.getD_cons_zero, List.getD_cons_succ, List.getD_nil, List.set_cons_zero, List.set_cons_succ, List.length_cons, List.length_nil, List.replicate, List.cons_append, List.nil_append, List.append_nil, List.getElem?_cons_zero, List.getElem?_cons_succ, List.getElem?_toArray, List.getElem?_nil, List.take_zero, List.take_succ_cons, List.take_nil, List.drop_zero, List.drop_succ_cons, List.drop_nil, List.headD_cons, List.tail_cons, List.flatten_cons, List.flatten_nil, List.flatMap_cons, List.flatMap_nil, List.toList_toArray, Array.toList_append, Option.bind_some, Option.map_some, Option.map_none, Option.isSome_some, List.all_nil, List.all_cons, Bool.and_self, Bool.and_true, Bool.true_and, true_and, and_true, ↓reduceIte, List.size_toArray, Bool.false_eq_true, Bool.true_eq_false, false_implies, true_implies, Bool.not_true, Bool.not_false, and_self, implies_true, decide_true, decide_false, Nat.reduceAdd, Nat.reduceMul, Nat.reduceLT, Nat.reduceSub, Nat.reduceLeDiff, Nat.reduceEqDiff, eq_self, ne_eq, not_false_eq_true, false_and, and_false, reduceCtorEq, List.filter_nil, List.filter_cons, List.isEmpty_nil, List.isEmpty_cons, bne_self_eq_false, Nat.reduceBneDiff, Nat.lt_add_one, Nat.zero_lt_succ, List.append_assoc, Nat.zero_le, and_self_iff, Int.reduceToNat, List.any_nil, List.any_cons, List.filterMap_nil, List.filterMap_cons, List.contains_nil, List.contains_cons, Bool.or_false, Bool.false_or, Bool.or_true, Bool.true_or, Bool.false_and, Bool.and_false, decide_eq_true_eq, decide_eq_false_iff_not, beq_iff_eq, Int.toNat_natCast]
        clear hs1 h2 h3 h4 e1 e2 e3
        repeat' first
          | refine And.intro ⟨k1, k2⟩ ?_
          | refine And.intro ⟨⟨_, rfl, hk⟩, _, rfl, hh, hd⟩ ?_
          | refine And.intro ⟨_, rfl, hk⟩ ?_
          | refine And.intro ⟨⟨_, rfl, ⟨hh, hd⟩, hs4⟩, _, rfl, hx⟩ ?_
          | refine And.intro (by kernel_rfl) ?_
        exact ⟨_, [(0, some _), (1, some _)], rfl, ⟨⟨⟨rfl, rfl, rfl⟩, trivial⟩, ⟨.inl rfl, rfl, rfl, rfl, .inl rfl, rfl, rfl, rfl, trivial⟩, by simp [rn, hpAt]⟩⟩
      · simp (maxSteps := 3000000) only [Try.f19, nse, g_nearOk, g_nearFind, g_isPair, g_isNearTime, g_nearCopiedT, g_knownCopied, g_heldWithT, ksOf_rows, hsOf_rows, kRows_len, hRows_len, rowsOf_len, bytesOf_rows, sendKs, sendHs, sendLk, sendSl, hs1, h1, e1, e2, e3, hl, hf, hW, eH, ge_iff_le, tY2, tY3, tY4, tY5, tY9, tY12, tY21, tY22, tY23, tY24, tY25, tY26, tY39, tY40, tY42, tY43, tY46, tY52, tY53, tY54, tY55, tY64, tY73, tY74, tY95, tY96, tY100, tY102, tY113, tY122, Try.underlying2, Try.underlying3, Try.underlying4, Try.underlying5, Try.underlying9, Try.underlying12, Try.underlying21, Try.underlying22, Try.underlying23, Try.underlying24, Try.underlying25, Try.underlying26, Try.underlying39, Try.underlying40, Try.underlying42, Try.underlying43, Try.underlying46, Try.underlying52, Try.underlying53, Try.underlying54, Try.underlying55, Try.underlying64, Try.underlying73, Try.underlying74, Try.underlying95, Try.underlying96, Try.underlying100, Try.underlying102, Try.underlying113, Try.underlying122, e_skip, e_label, e_ret, e_exit, e_seq, e_cond, e_block, e_region, seqK_normal, seqK_ret, seqK_exit, blkK_normal, blkK_ret, blkK_exit, condK_some, regK_true, regK_false, e_nil, e_cons, gateK_go, gateK_skip, gateK_ask, pickK_some, exK_some, x_pick, x_move, x_assign, x_alloc, x_box, x_build, x_buildSlice, x_load, x_store, x_binOp, x_unOp, x_convert, x_makeSlice, x_slice, x_fieldAddr, x_field, x_indexAddr, x_extract, x_nilCheck, x_call, x_len, x_append, x_min, oMin, x_copy, oCopy, eqAVs, callK_some, done_ret, done_normal, doneO_ret, doneO_normal, endsO_one, endsO_nil, endsO_more, ownAbs, frzAbs, leafs, leafs.leafsL, uniq, idxOf, bk, zipB, Blk.liveB, gate_none, gate_some, gateS_none, gateS_some, gateV_bool, gateV_undef, boolOf, evA, putT, refn, fpD, oBin, oUn, upsl, upl, up, ups, lk, dstsOf, resL, resA, packA, oLoadQ, oLoadKid, oStoreQ, oStoreTree, oBuildSliceQ, oBuildTree, oAppendQ, oAppendTree, isTr, isTrP, tkd, tkds, tkRows, ownOf, nodupB, deadL, treeOf, kidAbs, kidBlk, kidRows, TK.isCell, D.toL, oLoad, oStore, oAlloc, oBox, oBuild, oBuildSlice, oMake, oAppend, oIndexAddr, oFieldAddr, oField, oExtract, oNil, oSlice, oLen, oConvert, rowLoad, fillA, fillR, slB, dk, dks, dkRows, frz, loOf, hiOf, lenOf, rowsOf, nilV, lenV, putAt, views, viewsOk, CK.av, CK.ok, AV.cells, AV.one, Value.oneCell', Value.cells, pureAbs, nrm, nrm.nrmL, hpAt, sh, AV.ren, AV.ren.renL, Blk.ren, fpOf, footO, foot, blkIds, AV.ids, AV.ids.idsL, Op.operands, Call.operands, List.find?_cons, List.find?_nil, Nat.reduceBEq, beq_self_eq_true, List.map_cons, List.map_nil, List.getD_cons_zero, List.getD_cons_succ, List.getD_nil, List.set_cons_zero, List.set_cons_succ, List.length_cons, List.length_nil, List.replicate, List.cons_append, List.nil_append, List.append_nil, List.getElem?_cons_zero, List.getElem?_cons_succ, List.getElem?_toArray, List.getElem?_nil, List.take_zero, List.take_succ_cons, List.take_nil, List.drop_zero, List.drop_succ_cons, List.drop_nil, List.headD_cons, List.tail_cons, List.flatten_cons, List.flatten_nil, List.flatMap_cons, List.flatMap_nil, List.toList_toArray, Array.toList_append, Option.bind_some, Option.map_some, Option.map_none, Option.isSome_some, List.all_nil, List.all_cons, Bool.and_self, Bool.and_true, Bool.true_and, true_and, and_true, ↓reduceIte, List.size_toArray, Bool.false_eq_true, Bool.true_eq_false, false_implies, true_implies, Bool.not_true, Bool.not_false, and_self, implies_true, decide_true, decide_false, Nat.reduceAdd, Nat.reduceMul, Nat.reduceLT, Nat.reduceSub, Nat.reduceLeDiff, Nat.reduceEqDiff, eq_self, ne_eq, not_false_eq_true, false_and, and_false, reduceCtorEq, List.filter_nil, List.filter_cons, List.isEmpty_nil, List.isEmpty_cons, bne_self_eq_false, Nat.reduceBneDiff, Nat.lt_add_one, Nat.zero_lt_succ, List.append_assoc, Nat.zero_le, and_self_iff, Int.reduceToNat, List.any_nil, List.any_cons, List.filterMap_nil, List.filterMap_cons, List.contains_nil, List.contains_cons, Bool.or_false, Bool.false_or, Bool.or_true, Bool.true_or, Bool.false_and, Bool.and_false, decide_eq_true_eq, decide_eq_false_iff_not, beq_iff_eq, Int.toNat_natCast]
        clear hs1 h2 h3 h4 e1 e2 e3 hW
        repeat' first
          | refine And.intro ⟨k1, k2⟩ ?_
          | refine And.intro ⟨⟨_, rfl, hk⟩, _, rfl, hh, hd⟩ ?_
          | refine And.intro ⟨_, rfl, hk⟩ ?_
          | refine And.intro ⟨⟨_, rfl, ⟨hh, hd⟩, hs4⟩, _, rfl, hx⟩ ?_
          | refine And.intro (by kernel_rfl) ?_
        exact ⟨_, [(0, some _), (1, some _)], rfl, ⟨⟨⟨rfl, rfl, rfl⟩, trivial⟩, ⟨.inl rfl, rfl, rfl, rfl, .inl rfl, rfl, rfl, rfl, trivial⟩, by simp [rn, hpAt]⟩⟩
      · simp (maxSteps := 3000000) only [Try.f19, nse, g_nearOk, g_nearFind, g_isPair, g_isNearTime, g_nearCopiedT, g_knownCopied, g_heldWithT, ksOf_rows, hsOf_rows, kRows_len, hRows_len, rowsOf_len, bytesOf_rows, sendKs, sendHs, sendLk, sendSl, hs1, h1, e1, e2, e3, hl, hf, hW, eH, ge_iff_le, tY2, tY3, tY4, tY5, tY9, tY12, tY21, tY22, tY23, tY24, tY25, tY26, tY39, tY40, tY42, tY43, tY46, tY52, tY53, tY54, tY55, tY64, tY73, tY74, tY95, tY96, tY100, tY102, tY113, tY122, Try.underlying2, Try.underlying3, Try.underlying4, Try.underlying5, Try.underlying9, Try.underlying12, Try.underlying21, Try.underlying22, Try.underlying23, Try.underlying24, Try.underlying25, Try.underlying26, Try.underlying39, Try.underlying40, Try.underlying42, Try.underlying43, Try.underlying46, Try.underlying52, Try.underlying53, Try.underlying54, Try.underlying55, Try.underlying64, Try.underlying73, Try.underlying74, Try.underlying95, Try.underlying96, Try.underlying100, Try.underlying102, Try.underlying113, Try.underlying122, e_skip, e_label, e_ret, e_exit, e_seq, e_cond, e_block, e_region, seqK_normal, seqK_ret, seqK_exit, blkK_normal, blkK_ret, blkK_exit, condK_some, regK_true, regK_false, e_nil, e_cons, gateK_go, gateK_skip, gateK_ask, pickK_some, exK_some, x_pick, x_move, x_assign, x_alloc, x_box, x_build, x_buildSlice, x_load, x_store, x_binOp, x_unOp, x_convert, x_makeSlice, x_slice, x_fieldAddr, x_field, x_indexAddr, x_extract, x_nilCheck, x_call, x_len, x_append, x_min, oMin, x_copy, oCopy, eqAVs, callK_some, done_ret, done_normal, doneO_ret, doneO_normal, endsO_one, endsO_nil, endsO_more, ownAbs, frzAbs, leafs, leafs.leafsL, uniq, idxOf, bk, zipB, Blk.liveB, gate_none, gate_some, gateS_none, gateS_some, gateV_bool, gateV_undef, boolOf, evA, putT, refn, fpD, oBin, oUn, upsl, upl, up, ups, lk, dstsOf, resL, resA, packA, oLoadQ, oLoadKid, oStoreQ, oStoreTree, oBuildSliceQ, oBuildTree, oAppendQ, oAppendTree, isTr, isTrP, tkd, tkds, tkRows, ownOf, nodupB, deadL, treeOf, kidAbs, kidBlk, kidRows, TK.isCell, D.toL, oLoad, oStore, oAlloc, oBox, oBuild, oBuildSlice, oMake, oAppend, oIndexAddr, oFieldAddr, oField, oExtract, oNil, oSlice, oLen, oConvert, rowLoad, fillA, fillR, slB, dk, dks, dkRows, frz, loOf, hiOf, lenOf, rowsOf, nilV, lenV, putAt, views, viewsOk, CK.av, CK.ok, AV.cells, AV.one, Value.oneCell', Value.cells, pureAbs, nrm, nrm.nrmL, hpAt, sh, AV.ren, AV.ren.renL, Blk.ren, fpOf, footO, foot, blkIds, AV.ids, AV.ids.idsL, Op.operands, Call.operands, List.find?_cons, List.find?_nil, Nat.reduceBEq, beq_self_eq_true, List.map_cons, List.map_nil, List.getD_cons_zero, List.getD_cons_succ, List.getD_nil, List.set_cons_zero, List.set_cons_succ, List.length_cons, List.length_nil, List.replicate, List.cons_append, List.nil_append, List.append_nil, List.getElem?_cons_zero, List.getElem?_cons_succ, List.getElem?_toArray, List.getElem?_nil, List.take_zero, List.take_succ_cons, List.take_nil, List.drop_zero, List.drop_succ_cons, List.drop_nil, List.headD_cons, List.tail_cons, List.flatten_cons, List.flatten_nil, List.flatMap_cons, List.flatMap_nil, List.toList_toArray, Array.toList_append, Option.bind_some, Option.map_some, Option.map_none, Option.isSome_some, List.all_nil, List.all_cons, Bool.and_self, Bool.and_true, Bool.true_and, true_and, and_true, ↓reduceIte, List.size_toArray, Bool.false_eq_true, Bool.true_eq_false, false_implies, true_implies, Bool.not_true, Bool.not_false, and_self, implies_true, decide_true, decide_false, Nat.reduceAdd, Nat.reduceMul, Nat.reduceLT, Nat.reduceSub, Nat.reduceLeDiff, Nat.reduceEqDiff, eq_self, ne_eq, not_false_eq_true, false_and, and_false, reduceCtorEq, List.filter_nil, List.filter_cons, List.isEmpty_nil, List.isEmpty_cons, bne_self_eq_false, Nat.reduceBneDiff, Nat.lt_add_one, Nat.zero_lt_succ, List.append_assoc, Nat.zero_le, and_self_iff, Int.reduceToNat, List.any_nil, List.any_cons, List.filterMap_nil, List.filterMap_cons, List.contains_nil, List.contains_cons, Bool.or_false, Bool.false_or, Bool.or_true, Bool.true_or, Bool.false_and, Bool.and_false, decide_eq_true_eq, decide_eq_false_iff_not, beq_iff_eq, Int.toNat_natCast]
        clear hs1 h2 h3 h4 e1 e2 e3 hW
        repeat' first
          | refine And.intro ⟨k1, k2⟩ ?_
          | refine And.intro ⟨⟨_, rfl, hk⟩, _, rfl, hh, hd⟩ ?_
          | refine And.intro ⟨_, rfl, hk⟩ ?_
          | refine And.intro ⟨⟨_, rfl, ⟨hh, hd⟩, hs4⟩, _, rfl, hx⟩ ?_
          | refine And.intro (by kernel_rfl) ?_
        exact ⟨_, [(0, some _), (1, some _)], rfl, ⟨⟨⟨rfl, rfl, rfl⟩, trivial⟩, ⟨.inl rfl, rfl, rfl, rfl, .inl rfl, rfl, rfl, rfl, trivial⟩, by simp [rn, hpAt]⟩⟩
    · have hs2 : sOk ks hs a xs.length now = false := Bool.eq_false_iff.2 hs1
      have hcs : (nOkB ks hs = false ∧ inZ a 0 65535 = inZ a 0 65535 ∧ ((xs.length : Int) > 64) = ((xs.length : Int) > 64) ∧ inZ now 0 999980 = inZ now 0 999980) ∨ (nOkB ks hs = true ∧ inZ a 0 65535 = false ∧ ((xs.length : Int) > 64) = ((xs.length : Int) > 64) ∧ inZ now 0 999980 = inZ now 0 999980) ∨ (nOkB ks hs = true ∧ inZ a 0 65535 = true ∧ ((xs.length : Int) > 64) = True ∧ inZ now 0 999980 = inZ now 0 999980) ∨ (nOkB ks hs = true ∧ inZ a 0 65535 = true ∧ ((xs.length : Int) > 64) = False ∧ inZ now 0 999980 = false) := by
        by_cases h1 : nOkB ks hs = true
        · by_cases h2 : inZ a 0 65535 = true
          · by_cases h3 : (xs.length : Int) > 64
            · exact .inr (.inr (.inl ⟨h1, h2, eq_true h3, rfl⟩))
            · refine .inr (.inr (.inr ⟨h1, h2, eq_false h3, Bool.eq_false_iff.2 fun h4 => hs1 ?_⟩))
              simp only [inZ, decide_eq_true_eq] at h2 h4
              simp only [sOk, h1, Bool.true_and, decide_eq_true_eq]
              omega
          · exact .inr (.inl ⟨h1, Bool.eq_false_iff.2 h2, rfl, rfl⟩)
        · exact .inl ⟨Bool.eq_false_iff.2 h1, rfl, rfl, rfl⟩
      rcases hcs with ⟨h1, -, -, -⟩ | ⟨h1, h2, -, -⟩ | ⟨h1, h2, h3, -⟩ | ⟨h1, h2, h3, h4⟩
      · simp (maxSteps := 3000000) only [Try.f19, nse, g_nearOk, g_nearFind, g_isPair, g_isNearTime, g_nearCopiedT, g_knownCopied, g_heldWithT, ksOf_rows, hsOf_rows, kRows_len, hRows_len, rowsOf_len, bytesOf_rows, sendKs, sendHs, sendLk, sendSl, hs2, h1, Bool.false_eq_true, ↓reduceIte, tY2, tY3, tY4, tY5, tY9, tY12, tY21, tY22, tY23, tY24, tY25, tY26, tY39, tY40, tY42, tY43, tY46, tY52, tY53, tY54, tY55, tY64, tY73, tY74, tY95, tY96, tY100, tY102, tY113, tY122, Try.underlying2, Try.underlying3, Try.underlying4, Try.underlying5, Try.underlying9, Try.underlying12, Try.underlying21, Try.underlying22, Try.underlying23, Try.underlying24, Try.underlying25, Try.underlying26, Try.underlying39, Try.underlying40, Try.underlying42, Try.underlying43, Try.underlying46, Try.underlying52, Try.underlying53, Try.underlying54, Try.underlying55, Try.underlying64, Try.underlying73, Try.underlying74, Try.underlying95, Try.underlying96, Try.underlying100, Try.underlying102, Try.underlying113, Try.underlying122, e_skip, e_label, e_ret, e_exit, e_seq, e_cond, e_block, e_region, seqK_normal, seqK_ret, seqK_exit, blkK_normal, blkK_ret, blkK_exit, condK_some, regK_true, regK_false, e_nil, e_cons, gateK_go, gateK_skip, gateK_ask, pickK_some, exK_some, x_pick, x_move, x_assign, x_alloc, x_box, x_build, x_buildSlice, x_load, x_store, x_binOp, x_unOp, x_convert, x_makeSlice, x_slice, x_fieldAddr, x_field, x_indexAddr, x_extract, x_nilCheck, x_call, x_len, x_append, x_min, oMin, x_copy, oCopy, eqAVs, callK_some, done_ret, done_normal, doneO_ret, doneO_normal, endsO_one, endsO_nil, endsO_more, ownAbs, frzAbs, leafs, leafs.leafsL, uniq, idxOf, bk, zipB, Blk.liveB, gate_none, gate_some, gateS_none, gateS_some, gateV_bool, gateV_undef, boolOf, evA, putT, refn, fpD, oBin, oUn, upsl, upl, up, ups, lk, dstsOf, resL, resA, packA, oLoadQ, oLoadKid, oStoreQ, oStoreTree, oBuildSliceQ, oBuildTree, oAppendQ, oAppendTree, isTr, isTrP, tkd, tkds, tkRows, ownOf, nodupB, deadL, treeOf, kidAbs, kidBlk, kidRows, TK.isCell, D.toL, oLoad, oStore, oAlloc, oBox, oBuild, oBuildSlice, oMake, oAppend, oIndexAddr, oFieldAddr, oField, oExtract, oNil, oSlice, oLen, oConvert, rowLoad, fillA, fillR, slB, dk, dks, dkRows, frz, loOf, hiOf, lenOf, rowsOf, nilV, lenV, putAt, views, viewsOk, CK.av, CK.ok, AV.cells, AV.one, Value.oneCell', Value.cells, pureAbs, nrm, nrm.nrmL, hpAt, sh, AV.ren, AV.ren.renL, Blk.ren, fpOf, footO, foot, blkIds, AV.ids, AV.ids.idsL, Op.operands, Call.operands, List.find?_cons, List.find?_nil, Nat.reduceBEq, beq_self_eq_true, List.map_cons, List.map_nil, List.getD_cons_zero, List.getD_cons_succ, List.getD_nil, List.set_cons_zero, List.set_cons_succ, List.length_cons, List.length_nil, List.replicate, List.cons_append, List.nil_append, List.append_nil, List.getElem?_cons_zero, List.getElem?_cons_succ, List.getElem?_toArray, List.getElem?_nil, List.take_zero, List.take_succ_cons, List.take_nil, List.drop_zero, List.drop_succ_cons, List.drop_nil, List.headD_cons, List.tail_cons, List.flatten_cons, List.flatten_nil, List.flatMap_cons, List.flatMap_nil, List.toList_toArray, Array.toList_append, Option.bind_some, Option.map_some, Option.map_none, Option.isSome_some, List.all_nil, List.all_cons, Bool.and_self, Bool.and_true, Bool.true_and, true_and, and_true, ↓reduceIte, List.size_toArray, Bool.false_eq_true, Bool.true_eq_false, false_implies, true_implies, Bool.not_true, Bool.not_false, and_self, implies_true, decide_true, decide_false, Nat.reduceAdd, Nat.reduceMul, Nat.reduceLT, Nat.reduceSub, Nat.reduceLeDiff, Nat.reduceEqDiff, eq_self, ne_eq, not_false_eq_true, false_and, and_false, reduceCtorEq, List.filter_nil, List.filter_cons, List.isEmpty_nil, List.isEmpty_cons, bne_self_eq_false, Nat.reduceBneDiff, Nat.lt_add_one, Nat.zero_lt_succ, List.append_assoc, Nat.zero_le, and_self_iff, Int.reduceToNat, List.any_nil, List.any_cons, List.filterMap_nil, List.filterMap_cons, List.contains_nil, List.contains_cons, Bool.or_false, Bool.false_or, Bool.or_true, Bool.true_or, Bool.false_and, Bool.and_false, decide_eq_true_eq, decide_eq_false_iff_not, beq_iff_eq, Int.toNat_natCast]
        repeat' first
          | refine And.intro ⟨k1, k2⟩ ?_
          | refine And.intro ⟨⟨_, rfl, hk⟩, _, rfl, hh, hd⟩ ?_
          | refine And.intro ⟨_, rfl, hk⟩ ?_
          | refine And.intro (by kernel_rfl) ?_
        exact ⟨_, [(0, none), (1, none)], rfl, ⟨⟨⟨rfl, rfl, rfl⟩, trivial⟩, ⟨⟨by omega, rfl⟩, rfl, rfl, rfl, ⟨by omega, rfl, rfl⟩, rfl, rfl, rfl, trivial⟩, by simp [rn, hpAt]⟩⟩
      · simp (maxSteps := 3000000) only [Try.f19, nse, g_nearOk, g_nearFind, g_isPair, g_isNearTime, g_nearCopiedT, g_knownCopied, g_heldWithT, ksOf_rows, hsOf_rows, kRows_len, hRows_len, rowsOf_len, bytesOf_rows, sendKs, sendHs, sendLk, sendSl, hs2, h1, h2, Bool.false_eq_true, ↓reduceIte, tY2, tY3, tY4, tY5, tY9, tY12, tY21, tY22, tY23, tY24, tY25, tY26, tY39, tY40, tY42, tY43, tY46, tY52, tY53, tY54, tY55, tY64, tY73, tY74, tY95, tY96, tY100, tY102, tY113, tY122, Try.underlying2, Try.underlying3, Try.underlying4, Try.underlying5, Try.underlying9, Try.underlying12, Try.underlying21, Try.underlying22, Try.underlying23, Try.underlying24, Try.underlying25, Try.underlying26, Try.underlying39, Try.underlying40, Try.underlying42, Try.underlying43, Try.underlying46, Try.underlying52, Try.underlying53, Try.underlying54, Try.underlying55, Try.underlying64, Try.underlying73, Try.underlying74, Try.underlying95, Try.underlying96, Try.underlying100, Try.underlying102, Try.underlying113, Try.underlying122, e_skip, e_label, e_ret, e_exit, e_seq, e_cond, e_block, e_region, seqK_normal, seqK_ret, seqK_exit, blkK_normal, blkK_ret, blkK_exit, condK_some, regK_true, regK_false, e_nil, e_cons, gateK_go, gateK_skip, gateK_ask, pickK_some, exK_some, x_pick, x_move, x_assign, x_alloc, x_box, x_build, x_buildSlice, x_load, x_store, x_binOp, x_unOp, x_convert, x_makeSlice, x_slice, x_fieldAddr, x_field, x_indexAddr, x_extract, x_nilCheck, x_call, x_len, x_append, x_min, oMin, x_copy, oCopy, eqAVs, callK_some, done_ret, done_normal, doneO_ret, doneO_normal, endsO_one, endsO_nil, endsO_more, ownAbs, frzAbs, leafs, leafs.leafsL, uniq, idxOf, bk, zipB, Blk.liveB, gate_none, gate_some, gateS_none, gateS_some, gateV_bool, gateV_undef, boolOf, evA, putT, refn, fpD, oBin, oUn, upsl, upl, up, ups, lk, dstsOf, resL, resA, packA, oLoadQ, oLoadKid, oStoreQ, oStoreTree, oBuildSliceQ, oBuildTree, oAppendQ, oAppendTree, isTr, isTrP, tkd, tkds, tkRows, ownOf, nodupB, deadL, treeOf, kidAbs, kidBlk, kidRows, TK.isCell, D.toL, oLoad, oStore, oAlloc, oBox, oBuild, oBuildSlice, oMake, oAppend, oIndexAddr, oFieldAddr, oField, oExtract, oNil, oSlice, oLen, oConvert, rowLoad, fillA, fillR, slB, dk, dks, dkRows, frz, loOf, hiOf, lenOf, rowsOf, nilV, lenV, putAt, views, viewsOk, CK.av, CK.ok, AV.cells, AV.one, Value.oneCell', Value.cells, pureAbs, nrm, nrm.nrmL, hpAt, sh, AV.ren, AV.ren.renL, Blk.ren, fpOf, footO, foot, blkIds, AV.ids, AV.ids.idsL, Op.operands, Call.operands, List.find?_cons, List.find?_nil, Nat.reduceBEq, beq_self_eq_true, List.map_cons, List.map_nil, List.getD_cons_zero, List.getD_cons_succ, List.getD_nil, List.set_cons_zero, List.set_cons_succ, List.length_cons, List.length_nil, List.replicate, List.cons_append, List.nil_append, List.append_nil, List.getElem?_cons_zero, List.getElem?_cons_succ, List.getElem?_toArray, List.getElem?_nil, List.take_zero, List.take_succ_cons, List.take_nil, List.drop_zero, List.drop_succ_cons, List.drop_nil, List.headD_cons, List.tail_cons, List.flatten_cons, List.flatten_nil, List.flatMap_cons, List.flatMap_nil, List.toList_toArray, Array.toList_append, Option.bind_some, Option.map_some, Option.map_none, Option.isSome_some, List.all_nil, List.all_cons, Bool.and_self, Bool.and_true, Bool.true_and, true_and, and_true, ↓reduceIte, List.size_toArray, Bool.false_eq_true, Bool.true_eq_false, false_implies, true_implies, Bool.not_true, Bool.not_false, and_self, implies_true, decide_true, decide_false, Nat.reduceAdd, Nat.reduceMul, Nat.reduceLT, Nat.reduceSub, Nat.reduceLeDiff, Nat.reduceEqDiff, eq_self, ne_eq, not_false_eq_true, false_and, and_false, reduceCtorEq, List.filter_nil, List.filter_cons, List.isEmpty_nil, List.isEmpty_cons, bne_self_eq_false, Nat.reduceBneDiff, Nat.lt_add_one, Nat.zero_lt_succ, List.append_assoc, Nat.zero_le, and_self_iff, Int.reduceToNat, List.any_nil, List.any_cons, List.filterMap_nil, List.filterMap_cons, List.contains_nil, List.contains_cons, Bool.or_false, Bool.false_or, Bool.or_true, Bool.true_or, Bool.false_and, Bool.and_false, decide_eq_true_eq, decide_eq_false_iff_not, beq_iff_eq, Int.toNat_natCast]
        repeat' first
          | refine And.intro ⟨k1, k2⟩ ?_
          | refine And.intro ⟨⟨_, rfl, hk⟩, _, rfl, hh, hd⟩ ?_
          | refine And.intro ⟨_, rfl, hk⟩ ?_
          | refine And.intro (by kernel_rfl) ?_
        exact ⟨_, [(0, none), (1, none)], rfl, ⟨⟨⟨rfl, rfl, rfl⟩, trivial⟩, ⟨⟨by omega, rfl⟩, rfl, rfl, rfl, ⟨by omega, rfl, rfl⟩, rfl, rfl, rfl, trivial⟩, by simp [rn, hpAt]⟩⟩
      · simp (maxSteps := 3000000) only [Try.f19, nse, g_nearOk, g_nearFind, g_isPair, g_isNearTime, g_nearCopiedT, g_knownCopied, g_heldWithT, ksOf_rows, hsOf_rows, kRows_len, hRows_len, rowsOf_len, bytesOf_rows, sendKs, sendHs, sendLk, sendSl, hs2, h1, h2, h3, Bool.false_eq_true, ↓reduceIte, tY2, tY3, tY4, tY5, tY9, tY12, tY21, tY22, tY23, tY24, tY25, tY26, tY39, tY40, tY42, tY43, tY46, tY52, tY53, tY54, tY55, tY64, tY73, tY74, tY95, tY96, tY100, tY102, tY113, tY122, Try.underlying2, Try.underlying3, Try.underlying4, Try.underlying5, Try.underlying9, Try.underlying12, Try.underlying21, Try.underlying22, Try.underlying23, Try.underlying24, Try.underlying25, Try.underlying26, Try.underlying39, Try.underlying40, Try.underlying42, Try.underlying43, Try.underlying46, Try.underlying52, Try.underlying53, Try.underlying54, Try.underlying55, Try.underlying64, Try.underlying73, Try.underlying74, Try.underlying95, Try.underlying96, Try.underlying100, Try.underlying102, Try.underlying113, Try.underlying122, e_skip, e_label, e_ret, e_exit, e_seq, e_cond, e_block, e_region, seqK_normal, seqK_ret, seqK_exit, blkK_normal, blkK_ret, blkK_exit, condK_some, regK_true, regK_false, e_nil, e_cons, gateK_go, gateK_skip, gateK_ask, pickK_some, exK_some, x_pick, x_move, x_assign, x_alloc, x_box, x_build, x_buildSlice, x_load, x_store, x_binOp, x_unOp, x_convert, x_makeSlice, x_slice, x_fieldAddr, x_field, x_indexAddr, x_extract, x_nilCheck, x_call, x_len, x_append, x_min, oMin, x_copy, oCopy, eqAVs, callK_some, done_ret, done_normal, doneO_ret, doneO_normal, endsO_one, endsO_nil, endsO_more, ownAbs, frzAbs, leafs, leafs.leafsL, uniq, idxOf, bk, zipB, Blk.liveB, gate_none, gate_some, gateS_none, gateS_some, gateV_bool, gateV_undef, boolOf, evA, putT, refn, fpD, oBin, oUn, upsl, upl, up, ups, lk, dstsOf, resL, resA, packA, oLoadQ, oLoadKid, oStoreQ, oStoreTree, oBuildSliceQ, oBuildTree, oAppendQ, oAppendTree, isTr, isTrP, tkd, tkds, tkRows, ownOf, nodupB, deadL, treeOf, kidAbs, kidBlk, kidRows, TK.isCell, D.toL, oLoad, oStore, oAlloc, oBox, oBuild, oBuildSlice, oMake, oAppend, oIndexAddr, oFieldAddr, oField, oExtract, oNil, oSlice, oLen, oConvert, rowLoad, fillA, fillR, slB, dk, dks, dkRows, frz, loOf, hiOf, lenOf, rowsOf, nilV, lenV, putAt, views, viewsOk, CK.av, CK.ok, AV.cells, AV.one, Value.oneCell', Value.cells, pureAbs, nrm, nrm.nrmL, hpAt, sh, AV.ren, AV.ren.renL, Blk.ren, fpOf, footO, foot, blkIds, AV.ids, AV.ids.idsL, Op.operands, Call.operands, List.find?_cons, List.find?_nil, Nat.reduceBEq, beq_self_eq_true, List.map_cons, List.map_nil, List.getD_cons_zero, List.getD_cons_succ, List.getD_nil, List.set_cons_zero, List.set_cons_succ, List.length_cons, List.length_nil, List.replicate, List.cons_append, List.nil_append, List.append_nil, List.getElem?_cons_zero, List.getElem?_cons_succ, List.getElem?_toArray, List.getElem?_nil, List.take_zero, List.take_succ_cons, List.take_nil, List.drop_zero, List.drop_succ_cons, List.drop_nil, List.headD_cons, List.tail_cons, List.flatten_cons, List.flatten_nil, List.flatMap_cons, List.flatMap_nil, List.toList_toArray, Array.toList_append, Option.bind_some, Option.map_some, Option.map_none, Option.isSome_some, List.all_nil, List.all_cons, Bool.and_self, Bool.and_true, Bool.true_and, true_and, and_true, ↓reduceIte, List.size_toArray, Bool.false_eq_true, Bool.true_eq_false, false_implies, true_implies, Bool.not_true, Bool.not_false, and_self, implies_true, decide_true, decide_false, Nat.reduceAdd, Nat.reduceMul, Nat.reduceLT, Nat.reduceSub, Nat.reduceLeDiff, Nat.reduceEqDiff, eq_self, ne_eq, not_false_eq_true, false_and, and_false, reduceCtorEq, List.filter_nil, List.filter_cons, List.isEmpty_nil, List.isEmpty_cons, bne_self_eq_false, Nat.reduceBneDiff, Nat.lt_add_one, Nat.zero_lt_succ, List.append_assoc, Nat.zero_le, and_self_iff, Int.reduceToNat, List.any_nil, List.any_cons, List.filterMap_nil, List.filterMap_cons, List.contains_nil, List.contains_cons, Bool.or_false, Bool.false_or, Bool.or_true, Bool.true_or, Bool.false_and, Bool.and_false, decide_eq_true_eq, decide_eq_false_iff_not, beq_iff_eq, Int.toNat_natCast]
        repeat' first
          | refine And.intro ⟨k1, k2⟩ ?_
          | refine And.intro ⟨⟨_, rfl, hk⟩, _, rfl, hh, hd⟩ ?_
          | refine And.intro ⟨_, rfl, hk⟩ ?_
          | refine And.intro (by kernel_rfl) ?_
        exact ⟨_, [(0, none), (1, none)], rfl, ⟨⟨⟨rfl, rfl, rfl⟩, trivial⟩, ⟨⟨by omega, rfl⟩, rfl, rfl, rfl, ⟨by omega, rfl, rfl⟩, rfl, rfl, rfl, trivial⟩, by simp [rn, hpAt]⟩⟩
      · simp (maxSteps := 3000000) only [Try.f19, nse, g_nearOk, g_nearFind, g_isPair, g_isNearTime, g_nearCopiedT, g_knownCopied, g_heldWithT, ksOf_rows, hsOf_rows, kRows_len, hRows_len, rowsOf_len, bytesOf_rows, sendKs, sendHs, sendLk, sendSl, hs2, h1, h2, h3, h4, Bool.false_eq_true, ↓reduceIte, tY2, tY3, tY4, tY5, tY9, tY12, tY21, tY22, tY23, tY24, tY25, tY26, tY39, tY40, tY42, tY43, tY46, tY52, tY53, tY54, tY55, tY64, tY73, tY74, tY95, tY96, tY100, tY102, tY113, tY122, Try.underlying2, Try.underlying3, Try.underlying4, Try.underlying5, Try.underlying9, Try.underlying12, Try.underlying21, Try.underlying22, Try.underlying23, Try.underlying24, Try.underlying25, Try.underlying26, Try.underlying39, Try.underlying40, Try.underlying42, Try.underlying43, Try.underlying46, Try.underlying52, Try.underlying53, Try.underlying54, Try.underlying55, Try.underlying64, Try.underlying73, Try.underlying74, Try.underlying95, Try.underlying96, Try.underlying100, Try.underlying102, Try.underlying113, Try.underlying122, e_skip, e_label, e_ret, e_exit, e_seq, e_cond, e_block, e_region, seqK_normal, seqK_ret, seqK_exit, blkK_normal, blkK_ret, blkK_exit, condK_some, regK_true, regK_false, e_nil, e_cons, gateK_go, gateK_skip, gateK_ask, pickK_some, exK_some, x_pick, x_move, x_assign, x_alloc, x_box, x_build, x_buildSlice, x_load, x_store, x_binOp, x_unOp, x_convert, x_makeSlice, x_slice, x_fieldAddr, x_field, x_indexAddr, x_extract, x_nilCheck, x_call, x_len, x_append, x_min, oMin, x_copy, oCopy, eqAVs, callK_some, done_ret, done_normal, doneO_ret, doneO_normal, endsO_one, endsO_nil, endsO_more, ownAbs, frzAbs, leafs, leafs.leafsL, uniq, idxOf, bk, zipB, Blk.liveB, gate_none, gate_some, gateS_none, gateS_some, gateV_bool, gateV_undef, boolOf, evA, putT, refn, fpD, oBin, oUn, upsl, upl, up, ups, lk, dstsOf, resL, resA, packA, oLoadQ, oLoadKid, oStoreQ, oStoreTree, oBuildSliceQ, oBuildTree, oAppendQ, oAppendTree, isTr, isTrP, tkd, tkds, tkRows, ownOf, nodupB, deadL, treeOf, kidAbs, kidBlk, kidRows, TK.isCell, D.toL, oLoad, oStore, oAlloc, oBox, oBuild, oBuildSlice, oMake, oAppend, oIndexAddr, oFieldAddr, oField, oExtract, oNil, oSlice, oLen, oConvert, rowLoad, fillA, fillR, slB, dk, dks, dkRows, frz, loOf, hiOf, lenOf, rowsOf, nilV, lenV, putAt, views, viewsOk, CK.av, CK.ok, AV.cells, AV.one, Value.oneCell', Value.cells, pureAbs, nrm, nrm.nrmL, hpAt, sh, AV.ren, AV.ren.renL, Blk.ren, fpOf, footO, foot, blkIds, AV.ids, AV.ids.idsL, Op.operands, Call.operands, List.find?_cons, List.find?_nil, Nat.reduceBEq, beq_self_eq_true, List.map_cons, List.map_nil, List.getD_cons_zero, List.getD_cons_succ, List.getD_nil, List.set_cons_zero, List.set_cons_succ, List.length_cons, List.length_nil, List.replicate, List.cons_append, List.nil_append, List.append_nil, List.getElem?_cons_zero, List.getElem?_cons_succ, List.getElem?_toArray, List.getElem?_nil, List.take_zero, List.take_succ_cons, List.take_nil, List.drop_zero, List.drop_succ_cons, List.drop_nil, List.headD_cons, List.tail_cons, List.flatten_cons, List.flatten_nil, List.flatMap_cons, List.flatMap_nil, List.toList_toArray, Array.toList_append, Option.bind_some, Option.map_some, Option.map_none, Option.isSome_some, List.all_nil, List.all_cons, Bool.and_self, Bool.and_true, Bool.true_and, true_and, and_true, ↓reduceIte, List.size_toArray, Bool.false_eq_true, Bool.true_eq_false, false_implies, true_implies, Bool.not_true, Bool.not_false, and_self, implies_true, decide_true, decide_false, Nat.reduceAdd, Nat.reduceMul, Nat.reduceLT, Nat.reduceSub, Nat.reduceLeDiff, Nat.reduceEqDiff, eq_self, ne_eq, not_false_eq_true, false_and, and_false, reduceCtorEq, List.filter_nil, List.filter_cons, List.isEmpty_nil, List.isEmpty_cons, bne_self_eq_false, Nat.reduceBneDiff, Nat.lt_add_one, Nat.zero_lt_succ, List.append_assoc, Nat.zero_le, and_self_iff, Int.reduceToNat, List.any_nil, List.any_cons, List.filterMap_nil, List.filterMap_cons, List.contains_nil, List.contains_cons, Bool.or_false, Bool.false_or, Bool.or_true, Bool.true_or, Bool.false_and, Bool.and_false, decide_eq_true_eq, decide_eq_false_iff_not, beq_iff_eq, Int.toNat_natCast]
        repeat' first
          | refine And.intro ⟨k1, k2⟩ ?_
          | refine And.intro ⟨⟨_, rfl, hk⟩, _, rfl, hh, hd⟩ ?_
          | refine And.intro ⟨_, rfl, hk⟩ ?_
          | refine And.intro (by kernel_rfl) ?_
        exact ⟨_, [(0, none), (1, none)], rfl, ⟨⟨⟨rfl, rfl, rfl⟩, trivial⟩, ⟨⟨by omega, rfl⟩, rfl, rfl, rfl, ⟨by omega, rfl, rfl⟩, rfl, rfl, rfl, trivial⟩, by simp [rn, hpAt]⟩⟩
  · cases hg
theorem szHF_sum : ∀ (hs : List HE) (l : Int), 0 ≤ szHF hs l → ((sumH hs : Nat) : Int) ≤ l
  | [], l, h => by simp only [szHF] at h; simpa [sumH] using h
  | x :: t, l, h => by
    simp only [szHF] at h
    split at h
    · omega
    · rename_i hx
      have := szHF_sum t _ h
      simp only [szLeft] at hx this
      rw [sumH, List.map_cons, List.sum_cons, ← sumH]
      split at this <;> omega
theorem szN_sum {ks : List KE} {hs : List HE} {l : Int} (hl : 0 ≤ l ∧ l ≤ 1048576) (h : ¬ szN ks hs l < 0) : sumH hs ≤ 1048576 := by
  have hb := szLeft_bd (n := ks.length) hl
  unfold szN szHS at h
  split at h
  · omega
  · split at h
    · omega
    · rename_i h1 h2
      have hb2 := szLeft_bd (l := szLeft l ks.length) (n := hs.length) (by omega)
      have := szHF_sum hs (szLeft (szLeft l ks.length) hs.length) (by omega)
      omega
theorem sumH_drop (X : List HE) (k : Nat) : sumH (X.drop k) ≤ sumH X := by
  conv => rhs; rw [← List.take_append_drop k X, sumH_app]
  omega
theorem drop_left1 {A B : List HE} (h : A.length = 1) : List.drop 1 (A ++ B) = B := by rw [← h, List.drop_left]
def g_xns : PC := fun args => match args with
  | [.agg [.l _ rows, .l _ rows'], .v (.int .i64 a), .l _ rows2, .v (.int .i64 now)] => some ((∃ ks, rows = kRows ks ∧ ks.length ≤ 9223372036854775807) ∧ (∃ hs, rows' = hRows hs ∧ hFin hs) ∧ ∃ xs, rows2 = rowsOfBytes xs, .v (.bool true), [])
  | _ => none
def xns : List (FuncId × Abs) := [(29, pureAbs g_szNear), (30, pureAbs g_toNT), (31, pureAbs g_eqN), (32, pureAbs g_toByteS), (33, pureAbs g_eqByteS), (35, ownAbs g_markByteS), (34, ownAbs g_markNear), (36, pureAbs g_heldNear), (19, pureAbs g_sendT), (20, frzAbs g_sendD)]
theorem xns_ok : ∀ p ∈ xns, CallOk Try.prog p.1 p.2 := by
  intro p hp
  simp only [xns, List.mem_cons, List.not_mem_nil, or_false] at hp
  rcases hp with rfl | rfl | rfl | rfl | rfl | rfl | rfl | rfl | rfl | rfl
  · exact szNear_ok.call
  · exact toNearT_ok.call
  · exact eqNear_ok.call
  · exact toByteS_ok.call
  · exact eqByteS_ok.call
  · exact markByteS_ok.call
  · exact markNear_ok.call
  · exact heldNear_ok.call
  · exact implNearSendT_ok.call
  · exact specNearSendD_ok.callF
set_option maxHeartbeats 8000000 in
set_option maxRecDepth 100000 in
theorem lawExactNearSend_ok : PureOk Try.prog 9 g_xns := by
  refine PureOk.of_vc (G := xns) xns_ok mixed Try.func9 (by kernel_rfl) rfl ?_
  intro args cnd r bs hg hc
  unfold g_xns at hg
  split at hg
  · rename_i sz rows sz' rows' a sz2 rows2 now
    cases hg
    obtain ⟨⟨ks, rfl, hk⟩, ⟨hs, rfl, hh⟩, xs, rfl⟩ := hc
    refine ⟨⟨rfl, by simp, by simp [AV.ids, AV.ids.idsL]⟩, [.agg [.l 3 (kRows ks), .l 2 (hRows hs)], .v (.int .i64 a), .l 1 (rowsOfBytes xs), .v (.int .i64 now)], rfl, fun w vs h => CvL.ok (.cons (.cons (.l _ _ _ (kRows_w ks)) (.cons (.l _ _ _ (hRows_w hs)) .nil)) (.cons (.refl _) (.cons (.l _ _ _ (rowsOf_w xs)) (.cons (.refl _) .nil)))) h, ?_⟩
    have eH : hRows hs ++ [[D.v (.int .i64 a), D.l 1 (rowsOfBytes xs)]] = hRows (hs ++ [⟨a, xs⟩]) := hRows_app hs [⟨a, xs⟩]
    cases hs1 : sOk ks hs a xs.length now with
    | false =>
      simp (maxSteps := 3000000) only [Try.f9, xns, g_szNear, g_toNT, g_eqN, g_toByteS, g_eqByteS, g_markByteS, g_markNear, g_heldNear, g_sendT, g_sendD, sendK, sendH, sendL, szA, sendKs, sendHs, sendLk, sendSl, ksOf_rows, hsOf_rows, kRows_len, hRows_len, rowsOf_len, bytesOf_rows, marks_len, kxMks_len, hkC_mk, kEq_refl, hEq_refl, bne_self_eq_false, hs1, Bool.false_eq_true, ↓reduceIte, tY2, tY3, tY4, tY5, tY9, tY12, tY21, tY22, tY23, tY24, tY25, tY26, tY39, tY40, tY42, tY43, tY46, tY52, tY53, tY54, tY55, tY64, tY73, tY74, tY95, tY96, tY100, tY102, tY113, tY122, Try.underlying2, Try.underlying3, Try.underlying4, Try.underlying5, Try.underlying9, Try.underlying12, Try.underlying21, Try.underlying22, Try.underlying23, Try.underlying24, Try.underlying25, Try.underlying26, Try.underlying39, Try.underlying40, Try.underlying42, Try.underlying43, Try.underlying46, Try.underlying52, Try.underlying53, Try.underlying54, Try.underlying55, Try.underlying64, Try.underlying73, Try.underlying74, Try.underlying95, Try.underlying96, Try.underlying100, Try.underlying102, Try.underlying113, Try.underlying122, e_skip, e_label, e_ret, e_exit, e_seq, e_cond, e_block, e_region, seqK_normal, seqK_ret, seqK_exit, blkK_normal, blkK_ret, blkK_exit, condK_some, regK_true, regK_false, e_nil, e_cons, gateK_go, gateK_skip, gateK_ask, pickK_some, exK_some, x_pick, x_move, x_assign, x_alloc, x_box, x_build, x_buildSlice, x_load, x_store, x_binOp, x_unOp, x_convert, x_makeSlice, x_slice, x_fieldAddr, x_field, x_indexAddr, x_extract, x_nilCheck, x_call, x_len, x_append, x_min, oMin, x_copy, oCopy, eqAVs, callK_some, done_ret, done_normal, doneO_ret, doneO_normal, endsO_one, endsO_nil, endsO_more, ownAbs, frzAbs, leafs, leafs.leafsL, uniq, idxOf, bk, zipB, Blk.liveB, gate_none, gate_some, gateS_none, gateS_some, gateV_bool, gateV_undef, boolOf, evA, putT, refn, fpD, oBin, oUn, upsl, upl, up, ups, lk, dstsOf, resL, resA, packA, oLoadQ, oLoadKid, oStoreQ, oStoreTree, oBuildSliceQ, oBuildTree, oAppendQ, oAppendTree, isTr, isTrP, tkd, tkds, tkRows, ownOf, nodupB, deadL, treeOf, kidAbs, kidBlk, kidRows, TK.isCell, D.toL, oLoad, oStore, oAlloc, oBox, oBuild, oBuildSlice, oMake, oAppend, oIndexAddr, oFieldAddr, oField, oExtract, oNil, oSlice, oLen, oConvert, rowLoad, fillA, fillR, slB, dk, dks, dkRows, frz, loOf, hiOf, lenOf, rowsOf, nilV, lenV, putAt, views, viewsOk, CK.av, CK.ok, AV.cells, AV.one, Value.oneCell', Value.cells, pureAbs, nrm, nrm.nrmL, hpAt, sh, AV.ren, AV.ren.renL, Blk.ren, fpOf, footO, foot, blkIds, AV.ids, AV.ids.idsL, Op.operands, Call.operands, List.find?_cons, List.find?_nil, Nat.reduceBEq, beq_self_eq_true, List.map_cons, List.map_nil, List.getD_cons_zero, List.getD_cons_succ, List.getD_nil, List.set_cons_zero, List.set_cons_succ, List.length_cons, List.length_nil, List.replicate, List.cons_append, List.nil_append, List.append_nil, List.getElem?_cons_zero, List.getElem?_cons_succ, List.getElem?_toArray, List.getElem?_nil, List.take_zero, List.take_succ_cons, List.take_nil, List.drop_zero, List.drop_succ_cons, List.drop_nil, List.headD_cons, List.tail_cons, List.flatten_cons, List.flatten_nil, List.flatMap_cons, List.flatMap_nil, List.toList_toArray, Array.toList_append, Option.bind_some, Option.map_some, Option.map_none, Option.isSome_some, List.all_nil, List.all_cons, Bool.and_self, Bool.and_true, Bool.true_and, true_and, and_true, ↓reduceIte, List.size_toArray, Bool.false_eq_true, Bool.true_eq_false, false_implies, true_implies, Bool.not_true, Bool.not_false, and_self, implies_true, decide_true, decide_false, Nat.reduceAdd, Nat.reduceMul, Nat.reduceLT, Nat.reduceSub, Nat.reduceLeDiff, Nat.reduceEqDiff, eq_self, ne_eq, not_false_eq_true, false_and, and_false, reduceCtorEq, List.filter_nil, List.filter_cons, List.isEmpty_nil, List.isEmpty_cons, bne_self_eq_false, Nat.reduceBneDiff, Nat.lt_add_one, Nat.zero_lt_succ, List.append_assoc, Nat.zero_le, and_self_iff, Int.reduceToNat, List.any_nil, List.any_cons, List.filterMap_nil, List.filterMap_cons, List.contains_nil, List.contains_cons, Bool.or_false, Bool.false_or, Bool.or_true, Bool.true_or, Bool.false_and, Bool.and_false, decide_eq_true_eq, decide_eq_false_iff_not, beq_iff_eq, Int.toNat_natCast]
      split
      · exact ⟨_, [], rfl, ⟨⟨⟨rfl, rfl, rfl⟩, trivial⟩, trivial, by simp [rn, hpAt]⟩⟩
      refine ⟨⟨by omega, ⟨_, rfl, hk⟩, _, rfl, hh⟩, ?_⟩
      by_cases hz : szN ks hs 1048576 < 0
      · rw [if_pos hz]
        exact ⟨_, [], rfl, ⟨⟨⟨rfl, rfl, rfl⟩, trivial⟩, trivial, by simp [rn, hpAt]⟩⟩
      · rw [if_neg hz]
        rename_i h20
        obtain ⟨b1, b2, b3⟩ := szN_bd ks hs 1048576 (by omega) hz
        have b4 := szN_sum (by omega) hz
        have hm : hMid hs := ⟨b2, b3⟩
        have lowH : hLow hs := ⟨by omega, fun h hm => by have := b3 h hm; omega⟩
        have lowX : hLow (hs ++ [⟨a, xs⟩]) := ⟨by rw [List.length_append]; simp only [List.length_cons, List.length_nil]; omega, fun h hm => by
          rcases List.mem_append.1 hm with hm | hm
          · have := b3 h hm; omega
          · rw [List.mem_singleton.1 hm]; dsimp only; omega⟩
        have lowD : hLow ((hs ++ [⟨a, xs⟩] : List HE).drop 1) := ⟨by have := lowX.1; rw [List.length_drop]; omega, fun h hm => lowX.2 h (List.mem_of_mem_drop hm)⟩
        have lowN : hLow [] := ⟨Nat.zero_le _, fun h hm => (List.not_mem_nil hm).elim⟩
        have n1 : (hs ++ [⟨a, xs⟩] : List HE).length = hs.length + 1 := by simp
        have n2 : ((hs ++ [⟨a, xs⟩] : List HE).drop 1).length = hs.length := by rw [List.length_drop, n1]; omega
        have s1 : sumH (hs ++ [⟨a, xs⟩]) = sumH hs + xs.length := by rw [sumH_app]; simp [sumH]
        have s2 : sumH ((hs ++ [⟨a, xs⟩] : List HE).drop 1) ≤ sumH (hs ++ [⟨a, xs⟩]) := sumH_drop _ 1
        have s3 : sumH [] = 0 := rfl
        have n3 : ([] : List KE).length = 0 := rfl
        have n4 : ([] : List HE).length = 0 := rfl
        have q1 := hkC_eq hs (1 + 3 * (ks.length : Int)).toNat
        have q2 := hkC_eq [] (1 + 3 * (ks.length : Int)).toNat
        clear hz
        repeat' first
          | refine And.intro ⟨⟨_, rfl, by omega⟩, ⟨_, rfl, hm⟩⟩ ?_
          | refine And.intro ⟨_, rfl, by omega⟩ ?_
          | refine And.intro ⟨⟨_, rfl, by omega⟩, ⟨_, rfl, hm⟩, ⟨_, rfl, by omega⟩⟩ ?_
          | refine And.intro ⟨⟨_, rfl, by omega⟩, ⟨_, rfl, lowN⟩, ⟨_, rfl, by omega⟩, ⟨_, rfl, lowN⟩⟩ ?_
          | refine And.intro ⟨⟨_, rfl, by omega⟩, ⟨_, rfl, lowH⟩, ⟨_, rfl, by omega⟩, ⟨_, rfl, lowH⟩⟩ ?_
          | refine And.intro ⟨⟨_, rfl, by omega⟩, ⟨_, rfl, by omega, by omega⟩, by omega, by omega⟩ ?_
          | refine And.intro ⟨⟨_, rfl, by omega⟩, ⟨_, rfl, by omega, by omega, by omega, by omega⟩, by omega, by omega⟩ ?_
          | refine And.intro ⟨⟨_, rfl⟩, by omega, by omega, by omega⟩ ?_
          | refine And.intro (by kernel_rfl) ?_
          | rw [if_neg (by omega)]
          | rw [if_pos (by omega)]
        exact ⟨_, [], rfl, ⟨⟨⟨rfl, rfl, rfl⟩, trivial⟩, trivial, by simp [rn, hpAt]⟩⟩
    | true =>
      have hcs : ((0 ≤ nfV ks hs a now) = True ∧ (hs.length < 4) = (hs.length < 4)) ∨ ((0 ≤ nfV ks hs a now) = False ∧ (hs.length < 4) = True) ∨ ((0 ≤ nfV ks hs a now) = False ∧ (hs.length < 4) = False) := by
        by_cases hl : 0 ≤ nfV ks hs a now
        · exact .inl ⟨eq_true hl, rfl⟩
        · by_cases hf : hs.length < 4
          · exact .inr (.inl ⟨eq_false hl, eq_true hf⟩)
          · exact .inr (.inr ⟨eq_false hl, eq_false hf⟩)
      rcases hcs with ⟨hl, -⟩ | ⟨hl, hf⟩ | ⟨hl, hf⟩
      · simp (maxSteps := 3000000) only [Try.f9, xns, g_szNear, g_toNT, g_eqN, g_toByteS, g_eqByteS, g_markByteS, g_markNear, g_heldNear, g_sendT, g_sendD, sendK, sendH, sendL, szA, sendKs, sendHs, sendLk, sendSl, ksOf_rows, hsOf_rows, kRows_len, hRows_len, rowsOf_len, bytesOf_rows, marks_len, kxMks_len, hkC_mk, kEq_refl, hEq_refl, bne_self_eq_false, hs1, hl, tY2, tY3, tY4, tY5, tY9, tY12, tY21, tY22, tY23, tY24, tY25, tY26, tY39, tY40, tY42, tY43, tY46, tY52, tY53, tY54, tY55, tY64, tY73, tY74, tY95, tY96, tY100, tY102, tY113, tY122, Try.underlying2, Try.underlying3, Try.underlying4, Try.underlying5, Try.underlying9, Try.underlying12, Try.underlying21, Try.underlying22, Try.underlying23, Try.underlying24, Try.underlying25, Try.underlying26, Try.underlying39, Try.underlying40, Try.underlying42, Try.underlying43, Try.underlying46, Try.underlying52, Try.underlying53, Try.underlying54, Try.underlying55, Try.underlying64, Try.underlying73, Try.underlying74, Try.underlying95, Try.underlying96, Try.underlying100, Try.underlying102, Try.underlying113, Try.underlying122, e_skip, e_label, e_ret, e_exit, e_seq, e_cond, e_block, e_region, seqK_normal, seqK_ret, seqK_exit, blkK_normal, blkK_ret, blkK_exit, condK_some, regK_true, regK_false, e_nil, e_cons, gateK_go, gateK_skip, gateK_ask, pickK_some, exK_some, x_pick, x_move, x_assign, x_alloc, x_box, x_build, x_buildSlice, x_load, x_store, x_binOp, x_unOp, x_convert, x_makeSlice, x_slice, x_fieldAddr, x_field, x_indexAddr, x_extract, x_nilCheck, x_call, x_len, x_append, x_min, oMin, x_copy, oCopy, eqAVs, callK_some, done_ret, done_normal, doneO_ret, doneO_normal, endsO_one, endsO_nil, endsO_more, ownAbs, frzAbs, leafs, leafs.leafsL, uniq, idxOf, bk, zipB, Blk.liveB, gate_none, gate_some, gateS_none, gateS_some, gateV_bool, gateV_undef, boolOf, evA, putT, refn, fpD, oBin, oUn, upsl, upl, up, ups, lk, dstsOf, resL, resA, packA, oLoadQ, oLoadKid, oStoreQ, oStoreTree, oBuildSliceQ, oBuildTree, oAppendQ, oAppendTree, isTr, isTrP, tkd, tkds, tkRows, ownOf, nodupB, deadL, treeOf, kidAbs, kidBlk, kidRows, TK.isCell, D.toL, oLoad, oStore, oAlloc, oBox, oBuild, oBuildSlice, oMake, oAppend, oIndexAddr, oFieldAddr, oField, oExtract, oNil, oSlice, oLen, oConvert, rowLoad, fillA, fillR, slB, dk, dks, dkRows, frz, loOf, hiOf, lenOf, rowsOf, nilV, lenV, putAt, views, viewsOk, CK.av, CK.ok, AV.cells, AV.one, Value.oneCell', Value.cells, pureAbs, nrm, nrm.nrmL, hpAt, sh, AV.ren, AV.ren.renL, Blk.ren, fpOf, footO, foot, blkIds, AV.ids, AV.ids.idsL, Op.operands, Call.operands, List.find?_cons, List.find?_nil, Nat.reduceBEq, beq_self_eq_true, List.map_cons, List.map_nil, List.getD_cons_zero, List.getD_cons_succ, List.getD_nil, List.set_cons_zero, List.set_cons_succ, List.length_cons, List.length_nil, List.replicate, List.cons_append, List.nil_append, List.append_nil, List.getElem?_cons_zero, List.getElem?_cons_succ, List.getElem?_toArray, List.getElem?_nil, List.take_zero, List.take_succ_cons, List.take_nil, List.drop_zero, List.drop_succ_cons, List.drop_nil, List.headD_cons, List.tail_cons, List.flatten_cons, List.flatten_nil, List.flatMap_cons, List.flatMap_nil, List.toList_toArray, Array.toList_append, Option.bind_some, Option.map_some, Option.map_none, Option.isSome_some, List.all_nil, List.all_cons, Bool.and_self, Bool.and_true, Bool.true_and, true_and, and_true, ↓reduceIte, List.size_toArray, Bool.false_eq_true, Bool.true_eq_false, false_implies, true_implies, Bool.not_true, Bool.not_false, and_self, implies_true, decide_true, decide_false, Nat.reduceAdd, Nat.reduceMul, Nat.reduceLT, Nat.reduceSub, Nat.reduceLeDiff, Nat.reduceEqDiff, eq_self, ne_eq, not_false_eq_true, false_and, and_false, reduceCtorEq, List.filter_nil, List.filter_cons, List.isEmpty_nil, List.isEmpty_cons, bne_self_eq_false, Nat.reduceBneDiff, Nat.lt_add_one, Nat.zero_lt_succ, List.append_assoc, Nat.zero_le, and_self_iff, Int.reduceToNat, List.any_nil, List.any_cons, List.filterMap_nil, List.filterMap_cons, List.contains_nil, List.contains_cons, Bool.or_false, Bool.false_or, Bool.or_true, Bool.true_or, Bool.false_and, Bool.and_false, decide_eq_true_eq, decide_eq_false_iff_not, beq_iff_eq, Int.toNat_natCast]
        split
        · exact ⟨_, [], rfl, ⟨⟨⟨rfl, rfl, rfl⟩, trivial⟩, trivial, by simp [rn, hpAt]⟩⟩
        refine ⟨⟨by omega, ⟨_, rfl, hk⟩, _, rfl, hh⟩, ?_⟩
        by_cases hz : szN ks hs 1048576 < 0
        · rw [if_pos hz]
          exact ⟨_, [], rfl, ⟨⟨⟨rfl, rfl, rfl⟩, trivial⟩, trivial, by simp [rn, hpAt]⟩⟩
        · rw [if_neg hz]
          rename_i h20
          obtain ⟨b1, b2, b3⟩ := szN_bd ks hs 1048576 (by omega) hz
          have b4 := szN_sum (by omega) hz
          have hm : hMid hs := ⟨b2, b3⟩
          have lowH : hLow hs := ⟨by omega, fun h hm => by have := b3 h hm; omega⟩
          have lowX : hLow (hs ++ [⟨a, xs⟩]) := ⟨by rw [List.length_append]; simp only [List.length_cons, List.length_nil]; omega, fun h hm => by
            rcases List.mem_append.1 hm with hm | hm
            · have := b3 h hm; omega
            · rw [List.mem_singleton.1 hm]; dsimp only; omega⟩
          have lowD : hLow ((hs ++ [⟨a, xs⟩] : List HE).drop 1) := ⟨by have := lowX.1; rw [List.length_drop]; omega, fun h hm => lowX.2 h (List.mem_of_mem_drop hm)⟩
          have lowN : hLow [] := ⟨Nat.zero_le _, fun h hm => (List.not_mem_nil hm).elim⟩
          have n1 : (hs ++ [⟨a, xs⟩] : List HE).length = hs.length + 1 := by simp
          have n2 : ((hs ++ [⟨a, xs⟩] : List HE).drop 1).length = hs.length := by rw [List.length_drop, n1]; omega
          have s1 : sumH (hs ++ [⟨a, xs⟩]) = sumH hs + xs.length := by rw [sumH_app]; simp [sumH]
          have s2 : sumH ((hs ++ [⟨a, xs⟩] : List HE).drop 1) ≤ sumH (hs ++ [⟨a, xs⟩]) := sumH_drop _ 1
          have s3 : sumH [] = 0 := rfl
          have n3 : ([] : List KE).length = 0 := rfl
          have n4 : ([] : List HE).length = 0 := rfl
          have q1 := hkC_eq hs (1 + 3 * (ks.length : Int)).toNat
          have q2 := hkC_eq hs (1 + 3 * (ks.length : Int)).toNat
          clear hz
          repeat' first
            | refine And.intro ⟨⟨_, rfl, by omega⟩, ⟨_, rfl, hm⟩⟩ ?_
            | refine And.intro ⟨_, rfl, by omega⟩ ?_
            | refine And.intro ⟨⟨_, rfl, by omega⟩, ⟨_, rfl, hm⟩, ⟨_, rfl, by omega⟩⟩ ?_
            | refine And.intro ⟨⟨_, rfl, by omega⟩, ⟨_, rfl, lowH⟩, ⟨_, rfl, by omega⟩, ⟨_, rfl, lowH⟩⟩ ?_
            | refine And.intro ⟨⟨_, rfl, by omega⟩, ⟨_, rfl, lowH⟩, ⟨_, rfl, by omega⟩, ⟨_, rfl, lowH⟩⟩ ?_
            | refine And.intro ⟨⟨_, rfl, by omega⟩, ⟨_, rfl, by omega, by omega⟩, by omega, by omega⟩ ?_
            | refine And.intro ⟨⟨_, rfl, by omega⟩, ⟨_, rfl, by omega, by omega, by omega, by omega⟩, by omega, by omega⟩ ?_
            | refine And.intro ⟨⟨_, rfl⟩, by omega, by omega, by omega⟩ ?_
            | refine And.intro (by kernel_rfl) ?_
            | rw [if_neg (by omega)]
            | rw [if_pos (by omega)]
          exact ⟨_, [], rfl, ⟨⟨⟨rfl, rfl, rfl⟩, trivial⟩, trivial, by simp [rn, hpAt]⟩⟩
      · simp (maxSteps := 3000000) only [Try.f9, xns, g_szNear, g_toNT, g_eqN, g_toByteS, g_eqByteS, g_markByteS, g_markNear, g_heldNear, g_sendT, g_sendD, sendK, sendH, sendL, szA, sendKs, sendHs, sendLk, sendSl, ksOf_rows, hsOf_rows, kRows_len, hRows_len, rowsOf_len, bytesOf_rows, marks_len, kxMks_len, hkC_mk, kEq_refl, hEq_refl, bne_self_eq_false, hs1, hl, hf, eH, tY2, tY3, tY4, tY5, tY9, tY12, tY21, tY22, tY23, tY24, tY25, tY26, tY39, tY40, tY42, tY43, tY46, tY52, tY53, tY54, tY55, tY64, tY73, tY74, tY95, tY96, tY100, tY102, tY113, tY122, Try.underlying2, Try.underlying3, Try.underlying4, Try.underlying5, Try.underlying9, Try.underlying12, Try.underlying21, Try.underlying22, Try.underlying23, Try.underlying24, Try.underlying25, Try.underlying26, Try.underlying39, Try.underlying40, Try.underlying42, Try.underlying43, Try.underlying46, Try.underlying52, Try.underlying53, Try.underlying54, Try.underlying55, Try.underlying64, Try.underlying73, Try.underlying74, Try.underlying95, Try.underlying96, Try.underlying100, Try.underlying102, Try.underlying113, Try.underlying122, e_skip, e_label, e_ret, e_exit, e_seq, e_cond, e_block, e_region, seqK_normal, seqK_ret, seqK_exit, blkK_normal, blkK_ret, blkK_exit, condK_some, regK_true, regK_false, e_nil, e_cons, gateK_go, gateK_skip, gateK_ask, pickK_some, exK_some, x_pick, x_move, x_assign, x_alloc, x_box, x_build, x_buildSlice, x_load, x_store, x_binOp, x_unOp, x_convert, x_makeSlice, x_slice, x_fieldAddr, x_field, x_indexAddr, x_extract, x_nilCheck, x_call, x_len, x_append, x_min, oMin, x_copy, oCopy, eqAVs, callK_some, done_ret, done_normal, doneO_ret, doneO_normal, endsO_one, endsO_nil, endsO_more, ownAbs, frzAbs, leafs, leafs.leafsL, uniq, idxOf, bk, zipB, Blk.liveB, gate_none, gate_some, gateS_none, gateS_some, gateV_bool, gateV_undef, boolOf, evA, putT, refn, fpD, oBin, oUn, upsl, upl, up, ups, lk, dstsOf, resL, resA, packA, oLoadQ, oLoadKid, oStoreQ, oStoreTree, oBuildSliceQ, oBuildTree, oAppendQ, oAppendTree, isTr, isTrP, tkd, tkds, tkRows, ownOf, nodupB, deadL, treeOf, kidAbs, kidBlk, kidRows, TK.isCell, D.toL, oLoad, oStore, oAlloc, oBox, oBuild, oBuildSlice, oMake, oAppend, oIndexAddr, oFieldAddr, oField, oExtract, oNil, oSlice, oLen, oConvert, rowLoad, fillA, fillR, slB, dk, dks, dkRows, frz, loOf, hiOf, lenOf, rowsOf, nilV, lenV, putAt, views, viewsOk, CK.av, CK.ok, AV.cells, AV.one, Value.oneCell', Value.cells, pureAbs, nrm, nrm.nrmL, hpAt, sh, AV.ren, AV.ren.renL, Blk.ren, fpOf, footO, foot, blkIds, AV.ids, AV.ids.idsL, Op.operands, Call.operands, List.find?_cons, List.find?_nil, Nat.reduceBEq, beq_self_eq_true, List.map_cons, List.map_nil, List.getD_cons_zero, List.getD_cons_succ, List.getD_nil, List.set_cons_zero, List.set_cons_succ, List.length_cons, List.length_nil, List.replicate, List.cons_append, List.nil_append, List.append_nil, List.getElem?_cons_zero, List.getElem?_cons_succ, List.getElem?_toArray, List.getElem?_nil, List.take_zero, List.take_succ_cons, List.take_nil, List.drop_zero, List.drop_succ_cons, List.drop_nil, List.headD_cons, List.tail_cons, List.flatten_cons, List.flatten_nil, List.flatMap_cons, List.flatMap_nil, List.toList_toArray, Array.toList_append, Option.bind_some, Option.map_some, Option.map_none, Option.isSome_some, List.all_nil, List.all_cons, Bool.and_self, Bool.and_true, Bool.true_and, true_and, and_true, ↓reduceIte, List.size_toArray, Bool.false_eq_true, Bool.true_eq_false, false_implies, true_implies, Bool.not_true, Bool.not_false, and_self, implies_true, decide_true, decide_false, Nat.reduceAdd, Nat.reduceMul, Nat.reduceLT, Nat.reduceSub, Nat.reduceLeDiff, Nat.reduceEqDiff, eq_self, ne_eq, not_false_eq_true, false_and, and_false, reduceCtorEq, List.filter_nil, List.filter_cons, List.isEmpty_nil, List.isEmpty_cons, bne_self_eq_false, Nat.reduceBneDiff, Nat.lt_add_one, Nat.zero_lt_succ, List.append_assoc, Nat.zero_le, and_self_iff, Int.reduceToNat, List.any_nil, List.any_cons, List.filterMap_nil, List.filterMap_cons, List.contains_nil, List.contains_cons, Bool.or_false, Bool.false_or, Bool.or_true, Bool.true_or, Bool.false_and, Bool.and_false, decide_eq_true_eq, decide_eq_false_iff_not, beq_iff_eq, Int.toNat_natCast]
        split
        · exact ⟨_, [], rfl, ⟨⟨⟨rfl, rfl, rfl⟩, trivial⟩, trivial, by simp [rn, hpAt]⟩⟩
        refine ⟨⟨by omega, ⟨_, rfl, hk⟩, _, rfl, hh⟩, ?_⟩
        by_cases hz : szN ks hs 1048576 < 0
        · rw [if_pos hz]
          exact ⟨_, [], rfl, ⟨⟨⟨rfl, rfl, rfl⟩, trivial⟩, trivial, by simp [rn, hpAt]⟩⟩
        · rw [if_neg hz]
          rename_i h20
          obtain ⟨b1, b2, b3⟩ := szN_bd ks hs 1048576 (by omega) hz
          have b4 := szN_sum (by omega) hz
          have hm : hMid hs := ⟨b2, b3⟩
          have lowH : hLow hs := ⟨by omega, fun h hm => by have := b3 h hm; omega⟩
          have lowX : hLow (hs ++ [⟨a, xs⟩]) := ⟨by rw [List.length_append]; simp only [List.length_cons, List.length_nil]; omega, fun h hm => by
            rcases List.mem_append.1 hm with hm | hm
            · have := b3 h hm; omega
            · rw [List.mem_singleton.1 hm]; dsimp only; omega⟩
          have lowD : hLow ((hs ++ [⟨a, xs⟩] : List HE).drop 1) := ⟨by have := lowX.1; rw [List.length_drop]; omega, fun h hm => lowX.2 h (List.mem_of_mem_drop hm)⟩
          have lowN : hLow [] := ⟨Nat.zero_le _, fun h hm => (List.not_mem_nil hm).elim⟩
          have n1 : (hs ++ [⟨a, xs⟩] : List HE).length = hs.length + 1 := by simp
          have n2 : ((hs ++ [⟨a, xs⟩] : List HE).drop 1).length = hs.length := by rw [List.length_drop, n1]; omega
          have s1 : sumH (hs ++ [⟨a, xs⟩]) = sumH hs + xs.length := by rw [sumH_app]; simp [sumH]
          have s2 : sumH ((hs ++ [⟨a, xs⟩] : List HE).drop 1) ≤ sumH (hs ++ [⟨a, xs⟩]) := sumH_drop _ 1
          have s3 : sumH [] = 0 := rfl
          have n3 : ([] : List KE).length = 0 := rfl
          have n4 : ([] : List HE).length = 0 := rfl
          have q1 := hkC_eq hs (1 + 3 * (ks.length : Int)).toNat
          have q2 := hkC_eq (hs ++ [⟨a, xs⟩]) (1 + 3 * (ks.length : Int)).toNat
          clear hz
          repeat' first
            | refine And.intro ⟨⟨_, rfl, by omega⟩, ⟨_, rfl, hm⟩⟩ ?_
            | refine And.intro ⟨_, rfl, by omega⟩ ?_
            | refine And.intro ⟨⟨_, rfl, by omega⟩, ⟨_, rfl, hm⟩, ⟨_, rfl, by omega⟩⟩ ?_
            | refine And.intro ⟨⟨_, rfl, by omega⟩, ⟨_, rfl, lowX⟩, ⟨_, rfl, by omega⟩, ⟨_, rfl, lowX⟩⟩ ?_
            | refine And.intro ⟨⟨_, rfl, by omega⟩, ⟨_, rfl, lowH⟩, ⟨_, rfl, by omega⟩, ⟨_, rfl, lowH⟩⟩ ?_
            | refine And.intro ⟨⟨_, rfl, by omega⟩, ⟨_, rfl, by omega, by omega⟩, by omega, by omega⟩ ?_
            | refine And.intro ⟨⟨_, rfl, by omega⟩, ⟨_, rfl, by omega, by omega, by omega, by omega⟩, by omega, by omega⟩ ?_
            | refine And.intro ⟨⟨_, rfl⟩, by omega, by omega, by omega⟩ ?_
            | refine And.intro (by kernel_rfl) ?_
            | rw [if_neg (by omega)]
            | rw [if_pos (by omega)]
          exact ⟨_, [], rfl, ⟨⟨⟨rfl, rfl, rfl⟩, trivial⟩, trivial, by simp [rn, hpAt]⟩⟩
      · have h5 : hs.length = 4 := by
          have hok' := hs1
          simp only [sOk, Bool.and_eq_true, decide_eq_true_eq] at hok'
          have hs4 := (nOkB_k hok'.1).2.2.1
          have := of_eq_false hf
          omega
        have hT5 : List.take 5 (hs ++ [⟨a, xs⟩]) = hs ++ [⟨a, xs⟩] := List.take_of_length_le (by simp; omega)
        have hD5 : ∀ c, List.drop 1 (List.take 5 (List.take 1 (hs ++ [⟨a, xs⟩]) ++ hkL (List.drop 1 (hs ++ [⟨a, xs⟩])) c)) = hkL (List.drop 1 (hs ++ [⟨a, xs⟩])) c := fun c => by
          have l1 : (List.take 1 (hs ++ [⟨a, xs⟩] : List HE)).length = 1 := by rw [List.length_take]; simp
          rw [List.take_of_length_le (by rw [List.length_append, l1, hkL_len, List.length_drop]; simp; omega)]
          exact drop_left1 l1
        simp (maxSteps := 3000000) only [Try.f9, xns, g_szNear, g_toNT, g_eqN, g_toByteS, g_eqByteS, g_markByteS, g_markNear, g_heldNear, g_sendT, g_sendD, sendK, sendH, sendL, szA, sendKs, sendHs, sendLk, sendSl, ksOf_rows, hsOf_rows, kRows_len, hRows_len, rowsOf_len, bytesOf_rows, marks_len, kxMks_len, hkC_mk, kEq_refl, hEq_refl, bne_self_eq_false, hs1, hl, hf, eH, hRows_take, hRows_drop, hT5, hD5, tY2, tY3, tY4, tY5, tY9, tY12, tY21, tY22, tY23, tY24, tY25, tY26, tY39, tY40, tY42, tY43, tY46, tY52, tY53, tY54, tY55, tY64, tY73, tY74, tY95, tY96, tY100, tY102, tY113, tY122, Try.underlying2, Try.underlying3, Try.underlying4, Try.underlying5, Try.underlying9, Try.underlying12, Try.underlying21, Try.underlying22, Try.underlying23, Try.underlying24, Try.underlying25, Try.underlying26, Try.underlying39, Try.underlying40, Try.underlying42, Try.underlying43, Try.underlying46, Try.underlying52, Try.underlying53, Try.underlying54, Try.underlying55, Try.underlying64, Try.underlying73, Try.underlying74, Try.underlying95, Try.underlying96, Try.underlying100, Try.underlying102, Try.underlying113, Try.underlying122, e_skip, e_label, e_ret, e_exit, e_seq, e_cond, e_block, e_region, seqK_normal, seqK_ret, seqK_exit, blkK_normal, blkK_ret, blkK_exit, condK_some, regK_true, regK_false, e_nil, e_cons, gateK_go, gateK_skip, gateK_ask, pickK_some, exK_some, x_pick, x_move, x_assign, x_alloc, x_box, x_build, x_buildSlice, x_load, x_store, x_binOp, x_unOp, x_convert, x_makeSlice, x_slice, x_fieldAddr, x_field, x_indexAddr, x_extract, x_nilCheck, x_call, x_len, x_append, x_min, oMin, x_copy, oCopy, eqAVs, callK_some, done_ret, done_normal, doneO_ret, doneO_normal, endsO_one, endsO_nil, endsO_more, ownAbs, frzAbs, leafs, leafs.leafsL, uniq, idxOf, bk, zipB, Blk.liveB, gate_none, gate_some, gateS_none, gateS_some, gateV_bool, gateV_undef, boolOf, evA, putT, refn, fpD, oBin, oUn, upsl, upl, up, ups, lk, dstsOf, resL, resA, packA, oLoadQ, oLoadKid, oStoreQ, oStoreTree, oBuildSliceQ, oBuildTree, oAppendQ, oAppendTree, isTr, isTrP, tkd, tkds, tkRows, ownOf, nodupB, deadL, treeOf, kidAbs, kidBlk, kidRows, TK.isCell, D.toL, oLoad, oStore, oAlloc, oBox, oBuild, oBuildSlice, oMake, oAppend, oIndexAddr, oFieldAddr, oField, oExtract, oNil, oSlice, oLen, oConvert, rowLoad, fillA, fillR, slB, dk, dks, dkRows, frz, loOf, hiOf, lenOf, rowsOf, nilV, lenV, putAt, views, viewsOk, CK.av, CK.ok, AV.cells, AV.one, Value.oneCell', Value.cells, pureAbs, nrm, nrm.nrmL, hpAt, sh, AV.ren, AV.ren.renL, Blk.ren, fpOf, footO, foot, blkIds, AV.ids, AV.ids.idsL, Op.operands, Call.operands, List.find?_cons, List.find?_nil, Nat.reduceBEq, beq_self_eq_true, List.map_cons, List.map_nil, List.getD_cons_zero, List.getD_cons_succ, List.getD_nil, List.set_cons_zero, List.set_cons_succ, List.length_cons, List.length_nil, List.replicate, List.cons_append, List.nil_append, List.append_nil, List.getElem?_cons_zero, List.getElem?_cons_succ, List.getElem?_toArray, List.getElem?_nil, List.take_zero, List.take_succ_cons, List.take_nil, List.drop_zero, List.drop_succ_cons, List.drop_nil, List.headD_cons, List.tail_cons, List.flatten_cons, List.flatten_nil, List.flatMap_cons, List.flatMap_nil, List.toList_toArray, Array.toList_append, Option.bind_some, Option.map_some, Option.map_none, Option.isSome_some, List.all_nil, List.all_cons, Bool.and_self, Bool.and_true, Bool.true_and, true_and, and_true, ↓reduceIte, List.size_toArray, Bool.false_eq_true, Bool.true_eq_false, false_implies, true_implies, Bool.not_true, Bool.not_false, and_self, implies_true, decide_true, decide_false, Nat.reduceAdd, Nat.reduceMul, Nat.reduceLT, Nat.reduceSub, Nat.reduceLeDiff, Nat.reduceEqDiff, eq_self, ne_eq, not_false_eq_true, false_and, and_false, reduceCtorEq, List.filter_nil, List.filter_cons, List.isEmpty_nil, List.isEmpty_cons, bne_self_eq_false, Nat.reduceBneDiff, Nat.lt_add_one, Nat.zero_lt_succ, List.append_assoc, Nat.zero_le, and_self_iff, Int.reduceToNat, List.any_nil, List.any_cons, List.filterMap_nil, List.filterMap_cons, List.contains_nil, List.contains_cons, Bool.or_false, Bool.false_or, Bool.or_true, Bool.true_or, Bool.false_and, Bool.and_false, decide_eq_true_eq, decide_eq_false_iff_not, beq_iff_eq, Int.toNat_natCast]
        split
        · exact ⟨_, [], rfl, ⟨⟨⟨rfl, rfl, rfl⟩, trivial⟩, trivial, by simp [rn, hpAt]⟩⟩
        refine ⟨⟨by omega, ⟨_, rfl, hk⟩, _, rfl, hh⟩, ?_⟩
        by_cases hz : szN ks hs 1048576 < 0
        · rw [if_pos hz]
          exact ⟨_, [], rfl, ⟨⟨⟨rfl, rfl, rfl⟩, trivial⟩, trivial, by simp [rn, hpAt]⟩⟩
        · rw [if_neg hz]
          rename_i h20
          obtain ⟨b1, b2, b3⟩ := szN_bd ks hs 1048576 (by omega) hz
          have b4 := szN_sum (by omega) hz
          have hm : hMid hs := ⟨b2, b3⟩
          have lowH : hLow hs := ⟨by omega, fun h hm => by have := b3 h hm; omega⟩
          have lowX : hLow (hs ++ [⟨a, xs⟩]) := ⟨by rw [List.length_append]; simp only [List.length_cons, List.length_nil]; omega, fun h hm => by
            rcases List.mem_append.1 hm with hm | hm
            · have := b3 h hm; omega
            · rw [List.mem_singleton.1 hm]; dsimp only; omega⟩
          have lowD : hLow ((hs ++ [⟨a, xs⟩] : List HE).drop 1) := ⟨by have := lowX.1; rw [List.length_drop]; omega, fun h hm => lowX.2 h (List.mem_of_mem_drop hm)⟩
          have lowN : hLow [] := ⟨Nat.zero_le _, fun h hm => (List.not_mem_nil hm).elim⟩
          have n1 : (hs ++ [⟨a, xs⟩] : List HE).length = hs.length + 1 := by simp
          have n2 : ((hs ++ [⟨a, xs⟩] : List HE).drop 1).length = hs.length := by rw [List.length_drop, n1]; omega
          have s1 : sumH (hs ++ [⟨a, xs⟩]) = sumH hs + xs.length := by rw [sumH_app]; simp [sumH]
          have s2 : sumH ((hs ++ [⟨a, xs⟩] : List HE).drop 1) ≤ sumH (hs ++ [⟨a, xs⟩]) := sumH_drop _ 1
          have s3 : sumH [] = 0 := rfl
          have n3 : ([] : List KE).length = 0 := rfl
          have n4 : ([] : List HE).length = 0 := rfl
          have q1 := hkC_eq hs (1 + 3 * (ks.length : Int)).toNat
          have q2 := hkC_eq ((hs ++ [⟨a, xs⟩] : List HE).drop 1) (1 + 3 * (ks.length : Int)).toNat
          clear hz
          repeat' first
            | refine And.intro ⟨⟨_, rfl, by omega⟩, ⟨_, rfl, hm⟩⟩ ?_
            | refine And.intro ⟨_, rfl, by omega⟩ ?_
            | refine And.intro ⟨⟨_, rfl, by omega⟩, ⟨_, rfl, hm⟩, ⟨_, rfl, by omega⟩⟩ ?_
            | refine And.intro ⟨⟨_, rfl, by omega⟩, ⟨_, rfl, lowD⟩, ⟨_, rfl, by omega⟩, ⟨_, rfl, lowD⟩⟩ ?_
            | refine And.intro ⟨⟨_, rfl, by omega⟩, ⟨_, rfl, lowH⟩, ⟨_, rfl, by omega⟩, ⟨_, rfl, lowH⟩⟩ ?_
            | refine And.intro ⟨⟨_, rfl, by omega⟩, ⟨_, rfl, by omega, by omega⟩, by omega, by omega⟩ ?_
            | refine And.intro ⟨⟨_, rfl, by omega⟩, ⟨_, rfl, by omega, by omega, by omega, by omega⟩, by omega, by omega⟩ ?_
            | refine And.intro ⟨⟨_, rfl⟩, by omega, by omega, by omega⟩ ?_
            | refine And.intro (by kernel_rfl) ?_
            | rw [if_neg (by omega)]
            | rw [if_pos (by omega)]
          exact ⟨_, [], rfl, ⟨⟨⟨rfl, rfl, rfl⟩, trivial⟩, trivial, by simp [rn, hpAt]⟩⟩
  · cases hg
theorem walk_ExactNearSend (cs : Array Value) (ds : List D) (a : Int) (A : Option Addr) (n c : Nat) (xs : List UInt8) (b : Int) (w : World) (h : Reads w nearKinds ds cs.toList) (_ : (Lit.int .i64 a).wf = true) (h2 : Rd w w.heap.size A n (bv xs)) (hc : n ≤ c) (_ : (Lit.int .i64 b).wf = true) :
    Calls Try.prog 9 #[.agg cs, .int .i64 a, .slice A n c, .int .i64 b] w fun e w' => e = .returned (.bool true) ∧ Below w.heap.size w w' := by
  obtain ⟨ks, hs, hr, hk, hh⟩ := near_in h
  exact lawExactNearSend_ok.walk (vs := [_, _, _, _]) (arel_cons hr (arel_cons (.v _) (arel_cons (.l _ _ _ (rep_of_rd h2 hc)) (arel_cons (.v _) arel_nil)))) rfl ⟨⟨_, rfl, hk⟩, ⟨_, rfl, hh⟩, _, rfl⟩
end Go.Proofs.Ytfdgdffljaccdaa
