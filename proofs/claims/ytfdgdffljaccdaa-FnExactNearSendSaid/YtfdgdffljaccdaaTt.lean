import Derived.Test.YtfdgdffljaccdaaTn
import Derived.Test.YtfdgdffljaccdaaTd
import Derived.Test.YtfdgdffljaccdaaR6
namespace Go.Proofs.Ytfdgdffljaccdaa
open Go.RowKit
set_option linter.unusedSimpArgs false

/-! what a station knows and keeps, copied and changed -/
def hMid (hs : List HE) : Prop := hs.length ≤ 1048576 ∧ ∀ h ∈ hs, h.d.length ≤ 1048576
def g_copyM : PC := fun args => match args with
  | [.agg [.l _ rows, .l _ rows']] => some ((∃ ks, rows = kRows ks ∧ ks.length ≤ 1048576) ∧ (∃ hs, rows' = hRows hs ∧ hMid hs), .agg [.own 0, .own 1], [.sl 74 3 rows, .sl 40 2 rows'])
  | _ => none
set_option maxRecDepth 100000 in
theorem l3Copy_ok : OwnOk Try.prog 55 (ocOf g_copyM) := by
  refine OwnOk.of_vcM (G := []) (by simp) mixed Try.func55 (by kernel_rfl) rfl ?_
  intro args cnd r bs hg hc
  unfold g_copyM at hg
  split at hg
  · rename_i sz rows sz' rows'
    cases hg
    obtain ⟨⟨ks, rfl, hk⟩, hs, rfl, hh, hd⟩ := hc
    refine ⟨⟨by simp [Blk.liveB, blkIds, AV.ids.idsL, AV.ids], by simp [AV.ids, AV.ids.idsL]⟩, [.agg [.l 3 (kRows ks), .l 2 (hRows hs)]], rfl, fun w Z s vs h => CvL.ok (.cons (.cons (.l _ _ _ (kRows_w ks)) (.cons (.l _ _ _ (hRows_w hs)) .nil)) .nil) h, ?_⟩
    simp (maxSteps := 3000000) only [Try.f55, kRows_len, hRows_len, tY2, tY3, tY4, tY5, tY9, tY12, tY21, tY22, tY23, tY24, tY25, tY26, tY39, tY40, tY42, tY43, tY46, tY52, tY53, tY54, tY55, tY64, tY73, tY74, tY95, tY96, tY100, tY102, tY113, tY122, Try.underlying2, Try.underlying3, Try.underlying4, Try.underlying5, Try.underlying9, Try.underlying12, Try.underlying21, Try.underlying22, Try.underlying23, Try.underlying24, Try.underlying25, Try.underlying26, Try.underlying39, Try.underlying40, Try.underlying42, Try.underlying43, Try.underlying46, Try.underlying52, Try.underlying53, Try.underlying54, Try.underlying55, Try.underlying64, Try.underlying73, Try.underlying74, Try.underlying95, Try.underlying96, Try.underlying100, Try.underlying102, Try.underlying113, Try.underlying122, e_skip, e_label, e_ret, e_exit, e_seq, e_cond, e_block, e_region, seqK_normal, seqK_ret, seqK_exit, blkK_normal, blkK_ret, blkK_exit, condK_some, regK_true, regK_false, e_nil, e_cons, gateK_go, gateK_skip, gateK_ask, pickK_some, exK_some, x_pick, x_move, x_assign, x_alloc, x_box, x_build, x_buildSlice, x_load, x_store, x_binOp, x_unOp, x_convert, x_makeSlice, x_slice, x_fieldAddr, x_field, x_indexAddr, x_extract, x_nilCheck, x_call, x_len, x_append, x_min, oMin, x_copy, oCopy, eqAVs, callK_some, done_ret, done_normal, doneO_ret, doneO_normal, endsO_one, endsO_nil, endsO_more, ownAbs, frzAbs, leafs, leafs.leafsL, uniq, idxOf, bk, zipB, Blk.liveB, gate_none, gate_some, gateS_none, gateS_some, gateV_bool, gateV_undef, boolOf, evA, putT, refn, fpD, oBin, oUn, upsl, upl, up, ups, lk, dstsOf, resL, resA, packA, oLoadQ, oLoadKid, oStoreQ, oStoreTree, oBuildSliceQ, oBuildTree, oAppendQ, oAppendTree, isTr, isTrP, tkd, tkds, tkRows, ownOf, nodupB, deadL, treeOf, kidAbs, kidBlk, kidRows, TK.isCell, D.toL, oLoad, oStore, oAlloc, oBox, oBuild, oBuildSlice, oMake, oAppend, oIndexAddr, oFieldAddr, oField, oExtract, oNil, oSlice, oLen, oConvert, rowLoad, fillA, fillR, slB, dk, dks, dkRows, frz, loOf, hiOf, lenOf, rowsOf, nilV, lenV, putAt, views, viewsOk, CK.av, CK.ok, AV.cells, AV.one, Value.oneCell', Value.cells, pureAbs, nrm, nrm.nrmL, hpAt, sh, AV.ren, AV.ren.renL, Blk.ren, fpOf, footO, foot, blkIds, AV.ids, AV.ids.idsL, Op.operands, Call.operands, List.find?_cons, List.find?_nil, Nat.reduceBEq, beq_self_eq_true, List.map_cons, List.map_nil, List.getD_cons_zero, List.getD_cons_succ, List.getD_nil, List.set_cons_zero, List.set_cons_succ, List.length_cons, List.length_nil, List.replicate, List.cons_append, List.nil_append, List.append_nil, List.getElem?_cons_zero, List.getElem?_cons_succ, List.getElem?_toArray, List.getElem?_nil, List.take_zero, List.take_succ_cons, List.take_nil, List.drop_zero, List.drop_succ_cons, List.drop_nil, List.headD_cons, List.tail_cons, List.flatten_cons, List.flatten_nil, List.flatMap_cons, List.flatMap_nil, List.toList_toArray, Array.toList_append, Option.bind_some, Option.map_some, Option.map_none, Option.isSome_some, List.all_nil, List.all_cons, Bool.and_self, Bool.and_true, Bool.true_and, true_and, and_true, ↓reduceIte, List.size_toArray, Bool.false_eq_true, Bool.true_eq_false, false_implies, true_implies, Bool.not_true, Bool.not_false, and_self, implies_true, decide_true, decide_false, Nat.reduceAdd, Nat.reduceMul, Nat.reduceLT, Nat.reduceSub, Nat.reduceLeDiff, Nat.reduceEqDiff, eq_self, ne_eq, not_false_eq_true, false_and, and_false, reduceCtorEq, List.filter_nil, List.filter_cons, List.isEmpty_nil, List.isEmpty_cons, bne_self_eq_false, Nat.reduceBneDiff, Nat.lt_add_one, Nat.zero_lt_succ, List.append_assoc, Nat.zero_le, and_self_iff, Int.reduceToNat, List.any_nil, List.any_cons, List.filterMap_nil, List.filterMap_cons, List.contains_nil, List.contains_cons, Bool.or_false, Bool.false_or, Bool.or_true, Bool.true_or, Bool.false_and, Bool.and_false, decide_eq_true_eq, decide_eq_false_iff_not, beq_iff_eq, Int.toNat_natCast]
    refine ⟨⟨by omega, by omega, kRows_w _⟩, ?_⟩
    refine e_loop _ _ _ _ _ _ _ _ (fun k : Nat => [.any, .ptr 0 0, .ptr 4 0, .ptr 1 0, .v (.int .i64 (k : Int))] ++ List.replicate (Try.f55.ntmps - 5) .any) (fun k => [(0, .var 26 [.l 3 (kRows ks), .l 2 (hRows hs)]), (1, .var 26 [.own 2, .own 3]), (2, .sl 74 3 (kRows ks)), (3, .sl 40 2 (hRows (hs.take k))), (4, .var 26 [.v (.slice none 0 0), .v (.slice none 0 0)])]) (fun k => k ≤ hs.length) (fun k => hs.length - k) 5 (fun k => by simp) ⟨0, [(1, some 112), (2, some 80), (3, none), (4, some 16)], by omega, ?_, by simp [keepIds]⟩ fun k hk' => ?_
    · simp only [Try.f55, List.take_zero, show hRows [] = [] from rfl]
      (refine ⟨?_, ?_, ?_⟩ <;> simp [fitT, fit1, fitH, fitB, trE, emptyB, rn, lk, AV.ren, AV.ren.renL, Blk.ren, blkIds, blkPids, AV.ids, AV.ids.idsL, AV.pids, AV.pids.pidsL, Blk.there])
      rfl
    · have w2 : IntKind.i64.wrap ((k : Int) + 1) = ((k + 1 : Nat) : Int) := by rw [wrap_id] <;> omega
      by_cases h : k < hs.length
      · have hrow := hRows_get hs k h
        have hlt : ((k : Int) < (hs.length : Int)) = True := eq_true (by omega)
        have h0 : (0 ≤ (k : Int)) = True := eq_true (by omega)
        simp (maxSteps := 3000000) only [Try.f55, hRows_len, hrow, hlt, h0, D.toI, D.toL, rowsOf_len, tY2, tY3, tY4, tY5, tY9, tY12, tY21, tY22, tY23, tY24, tY25, tY26, tY39, tY40, tY42, tY43, tY46, tY52, tY53, tY54, tY55, tY64, tY73, tY74, tY95, tY96, tY100, tY102, tY113, tY122, Try.underlying2, Try.underlying3, Try.underlying4, Try.underlying5, Try.underlying9, Try.underlying12, Try.underlying21, Try.underlying22, Try.underlying23, Try.underlying24, Try.underlying25, Try.underlying26, Try.underlying39, Try.underlying40, Try.underlying42, Try.underlying43, Try.underlying46, Try.underlying52, Try.underlying53, Try.underlying54, Try.underlying55, Try.underlying64, Try.underlying73, Try.underlying74, Try.underlying95, Try.underlying96, Try.underlying100, Try.underlying102, Try.underlying113, Try.underlying122, e_skip, e_label, e_ret, e_exit, e_seq, e_cond, e_block, e_region, seqK_normal, seqK_ret, seqK_exit, blkK_normal, blkK_ret, blkK_exit, condK_some, regK_true, regK_false, e_nil, e_cons, gateK_go, gateK_skip, gateK_ask, pickK_some, exK_some, x_pick, x_move, x_assign, x_alloc, x_box, x_build, x_buildSlice, x_load, x_store, x_binOp, x_unOp, x_convert, x_makeSlice, x_slice, x_fieldAddr, x_field, x_indexAddr, x_extract, x_nilCheck, x_call, x_len, x_append, x_min, oMin, x_copy, oCopy, eqAVs, callK_some, done_ret, done_normal, doneO_ret, doneO_normal, endsO_one, endsO_nil, endsO_more, ownAbs, frzAbs, leafs, leafs.leafsL, uniq, idxOf, bk, zipB, Blk.liveB, gate_none, gate_some, gateS_none, gateS_some, gateV_bool, gateV_undef, boolOf, evA, putT, refn, fpD, oBin, oUn, upsl, upl, up, ups, lk, dstsOf, resL, resA, packA, oLoadQ, oLoadKid, oStoreQ, oStoreTree, oBuildSliceQ, oBuildTree, oAppendQ, oAppendTree, isTr, isTrP, tkd, tkds, tkRows, ownOf, nodupB, deadL, treeOf, kidAbs, kidBlk, kidRows, TK.isCell, D.toL, oLoad, oStore, oAlloc, oBox, oBuild, oBuildSlice, oMake, oAppend, oIndexAddr, oFieldAddr, oField, oExtract, oNil, oSlice, oLen, oConvert, rowLoad, fillA, fillR, slB, dk, dks, dkRows, frz, loOf, hiOf, lenOf, rowsOf, nilV, lenV, putAt, views, viewsOk, CK.av, CK.ok, AV.cells, AV.one, Value.oneCell', Value.cells, pureAbs, nrm, nrm.nrmL, hpAt, sh, AV.ren, AV.ren.renL, Blk.ren, fpOf, footO, foot, blkIds, AV.ids, AV.ids.idsL, Op.operands, Call.operands, List.find?_cons, List.find?_nil, Nat.reduceBEq, beq_self_eq_true, List.map_cons, List.map_nil, List.getD_cons_zero, List.getD_cons_succ, List.getD_nil, List.set_cons_zero, List.set_cons_succ, List.length_cons, List.length_nil, List.replicate, List.cons_append, List.nil_append, List.append_nil, List.getElem?_cons_zero, List.getElem?_cons_succ, List.getElem?_toArray, List.getElem?_nil, List.take_zero, List.take_succ_cons, List.take_nil, List.drop_zero, List.drop_succ_cons, List.drop_nil, List.headD_cons, List.tail_cons, List.flatten_cons, List.flatten_nil, List.flatMap_cons, List.flatMap_nil, List.toList_toArray, Array.toList_append, Option.bind_some, Option.map_some, Option.map_none, Option.isSome_some, List.all_nil, List.all_cons, Bool.and_self, Bool.and_true, Bool.true_and, true_and, and_true, ↓reduceIte, List.size_toArray, Bool.false_eq_true, Bool.true_eq_false, false_implies, true_implies, Bool.not_true, Bool.not_false, and_self, implies_true, decide_true, decide_false, Nat.reduceAdd, Nat.reduceMul, Nat.reduceLT, Nat.reduceSub, Nat.reduceLeDiff, Nat.reduceEqDiff, eq_self, ne_eq, not_false_eq_true, false_and, and_false, reduceCtorEq, List.filter_nil, List.filter_cons, List.isEmpty_nil, List.isEmpty_cons, bne_self_eq_false, Nat.reduceBneDiff, Nat.lt_add_one, Nat.zero_lt_succ, List.append_assoc, Nat.zero_le, and_self_iff, Int.reduceToNat, List.any_nil, List.any_cons, List.filterMap_nil, List.filterMap_cons, List.contains_nil, List.contains_cons, Bool.or_false, Bool.false_or, Bool.or_true, Bool.true_or, Bool.false_and, Bool.and_false, decide_eq_true_eq, decide_eq_false_iff_not, beq_iff_eq, Int.toNat_natCast, loopK_normal, loopK_exit, loopK_ret, w2]
        have e : hRows (hs.take k) ++ [[D.v (.int .i64 hs[k].a), D.l 1 (rowsOfBytes hs[k].d)]] = hRows (hs.take (k + 1)) := by
          rw [List.take_add_one, List.getElem?_eq_getElem h, ← hRows_app]; rfl
        have hdk := hd hs[k] (List.getElem_mem h)
        rw [e]
        refine ⟨⟨by omega, by omega, rowsOf_w _⟩, ⟨by rw [List.length_take]; omega, by rw [List.length_take]; omega, by simp⟩, by kernel_rfl, k + 1, [(3, some 373)], by omega, by omega, ?_, by simp [keepIds]⟩
        clear e hrow hlt h0 w2
        (refine ⟨?_, ?_, ?_⟩ <;> simp [fitT, fit1, fitH, fitB, trE, emptyB, rn, lk, AV.ren, AV.ren.renL, Blk.ren, blkIds, blkPids, AV.ids, AV.ids.idsL, AV.pids, AV.pids.pidsL, Blk.there])
      · have hlt : ((k : Int) < (hs.length : Int)) = False := eq_false (by omega)
        simp (maxSteps := 3000000) only [Try.f55, hRows_len, hlt, tY2, tY3, tY4, tY5, tY9, tY12, tY21, tY22, tY23, tY24, tY25, tY26, tY39, tY40, tY42, tY43, tY46, tY52, tY53, tY54, tY55, tY64, tY73, tY74, tY95, tY96, tY100, tY102, tY113, tY122, Try.underlying2, Try.underlying3, Try.underlying4, Try.underlying5, Try.underlying9, Try.underlying12, Try.underlying21, Try.underlying22, Try.underlying23, Try.underlying24, Try.underlying25, Try.underlying26, Try.underlying39, Try.underlying40, Try.underlying42, Try.underlying43, Try.underlying46, Try.underlying52, Try.underlying53, Try.underlying54, Try.underlying55, Try.underlying64, Try.underlying73, Try.underlying74, Try.underlying95, Try.underlying96, Try.underlying100, Try.underlying102, Try.underlying113, Try.underlying122, e_skip, e_label, e_ret, e_exit, e_seq, e_cond, e_block, e_region, seqK_normal, seqK_ret, seqK_exit, blkK_normal, blkK_ret, blkK_exit, condK_some, regK_true, regK_false, e_nil, e_cons, gateK_go, gateK_skip, gateK_ask, pickK_some, exK_some, x_pick, x_move, x_assign, x_alloc, x_box, x_build, x_buildSlice, x_load, x_store, x_binOp, x_unOp, x_convert, x_makeSlice, x_slice, x_fieldAddr, x_field, x_indexAddr, x_extract, x_nilCheck, x_call, x_len, x_append, x_min, oMin, x_copy, oCopy, eqAVs, callK_some, done_ret, done_normal, doneO_ret, doneO_normal, endsO_one, endsO_nil, endsO_more, ownAbs, frzAbs, leafs, leafs.leafsL, uniq, idxOf, bk, zipB, Blk.liveB, gate_none, gate_some, gateS_none, gateS_some, gateV_bool, gateV_undef, boolOf, evA, putT, refn, fpD, oBin, oUn, upsl, upl, up, ups, lk, dstsOf, resL, resA, packA, oLoadQ, oLoadKid, oStoreQ, oStoreTree, oBuildSliceQ, oBuildTree, oAppendQ, oAppendTree, isTr, isTrP, tkd, tkds, tkRows, ownOf, nodupB, deadL, treeOf, kidAbs, kidBlk, kidRows, TK.isCell, D.toL, oLoad, oStore, oAlloc, oBox, oBuild, oBuildSlice, oMake, oAppend, oIndexAddr, oFieldAddr, oField, oExtract, oNil, oSlice, oLen, oConvert, rowLoad, fillA, fillR, slB, dk, dks, dkRows, frz, loOf, hiOf, lenOf, rowsOf, nilV, lenV, putAt, views, viewsOk, CK.av, CK.ok, AV.cells, AV.one, Value.oneCell', Value.cells, pureAbs, nrm, nrm.nrmL, hpAt, sh, AV.ren, AV.ren.renL, Blk.ren, fpOf, footO, foot, blkIds, AV.ids, AV.ids.idsL, Op.operands, Call.operands, List.find?_cons, List.find?_nil, Nat.reduceBEq, beq_self_eq_true, List.map_cons, List.map_nil, List.getD_cons_zero, List.getD_cons_succ, List.getD_nil, List.set_cons_zero, List.set_cons_succ, List.length_cons, List.length_nil, List.replicate, List.cons_append, List.nil_append, List.append_nil, List.getElem?_cons_zero, List.getElem?_cons_succ, List.getElem?_toArray, List.getElem?_nil, List.take_zero, List.take_succ_cons, List.take_nil, List.drop_zero, List.drop_succ_cons, List.drop_nil, List.headD_cons, List.tail_cons, List.flatten_cons, List.flatten_nil, List.flatMap_cons, List.flatMap_nil, List.toList_toArray, Array.toList_append, Option.bind_some, Option.map_some, Option.map_none, Option.isSome_some, List.all_nil, List.all_cons, Bool.and_self, Bool.and_true, Bool.true_and, true_and, and_true, ↓reduceIte, List.size_toArray, Bool.false_eq_true, Bool.true_eq_false, false_implies, true_implies, Bool.not_true, Bool.not_false, and_self, implies_true, decide_true, decide_false, Nat.reduceAdd, Nat.reduceMul, Nat.reduceLT, Nat.reduceSub, Nat.reduceLeDiff, Nat.reduceEqDiff, eq_self, ne_eq, not_false_eq_true, false_and, and_false, reduceCtorEq, List.filter_nil, List.filter_cons, List.isEmpty_nil, List.isEmpty_cons, bne_self_eq_false, Nat.reduceBneDiff, Nat.lt_add_one, Nat.zero_lt_succ, List.append_assoc, Nat.zero_le, and_self_iff, Int.reduceToNat, List.any_nil, List.any_cons, List.filterMap_nil, List.filterMap_cons, List.contains_nil, List.contains_cons, Bool.or_false, Bool.false_or, Bool.or_true, Bool.true_or, Bool.false_and, Bool.and_false, decide_eq_true_eq, decide_eq_false_iff_not, beq_iff_eq, Int.toNat_natCast, loopK_normal, loopK_exit, loopK_ret, w2]
        obtain rfl : k = hs.length := by omega
        rw [List.take_length]
        exact ⟨[(0, some 2), (1, some 3)], by (refine ⟨?_, ?_, ?_⟩ <;> simp [fitT, fit1, fitH, fitB, trE, emptyB, rn, lk, AV.ren, AV.ren.renL, Blk.ren, blkIds, blkPids, AV.ids, AV.ids.idsL, AV.pids, AV.pids.pidsL, Blk.there]), by simp [keepIds, rn, List.range, List.range.loop]⟩
  · cases hg

/-! bytes are to be sent -/
def sOk (ks : List KE) (hs : List HE) (a : Int) (n : Nat) (now : Int) : Bool := nOkB ks hs && decide ((0 ≤ a ∧ a ≤ 65535) ∧ n ≤ 64 ∧ 0 ≤ now ∧ now ≤ 999980)
abbrev nilA : AV := .v (.slice none 0 0)
def sendR (ok : Bool) (link : Int) (n : Nat) : AV :=
  if ok = true then (if 0 ≤ link then .tup [.agg [.own 0, .own 1], .v (.int .i64 link)] else if n < 4 then .tup [.agg [.own 0, .own 1], .v (.int .i64 (-1))] else .tup [.agg [.own 0, .sub 1 1 5], .v (.int .i64 (-1))])
  else .tup [.agg [nilA, nilA], .v (.int .i64 (-1))]
def sendB (ok : Bool) (link : Int) (rows rows' : List (List D)) (row : List D) : List Blk :=
  if ok = true then (if 0 ≤ link then [.sl 74 3 rows, .sl 40 2 rows'] else [.sl 74 3 rows, .sl 40 2 (rows' ++ [row])])
  else []
theorem sendR_ids {ok : Bool} {link : Int} {n : Nat} {rows rows' : List (List D)} {row : List D} : ∀ k ∈ (sendR ok link n).ids, k < (sendB ok link rows rows' row).length := by
  intro k hk
  unfold sendR at hk
  unfold sendB
  by_cases h1 : ok = true
  · rw [if_pos h1] at hk ⊢
    by_cases h2 : 0 ≤ link
    · rw [if_pos h2] at hk ⊢
      simp [AV.ids, AV.ids.idsL] at hk ⊢
      omega
    · rw [if_neg h2] at hk ⊢
      by_cases h3 : n < 4
      · rw [if_pos h3] at hk
        simp [AV.ids, AV.ids.idsL] at hk ⊢
        omega
      · rw [if_neg h3] at hk
        simp [AV.ids, AV.ids.idsL] at hk ⊢
        omega
  · rw [if_neg h1] at hk
    simp [AV.ids, AV.ids.idsL] at hk
def g_sendM : PC := fun args => match args with
  | [.agg [.l _ rows, .l _ rows'], .v (.int .i64 a), .l _ rows2, .v (.int .i64 now)] => some ((∃ ks, rows = kRows ks ∧ ks.length ≤ 1048576) ∧ (∃ hs, rows' = hRows hs ∧ hMid hs) ∧ (∃ xs, rows2 = rowsOfBytes xs ∧ xs.length ≤ 1048576),
      sendR (sOk (ksOf rows) (hsOf rows') a rows2.length now) (nfV (ksOf rows) (hsOf rows') a now) rows'.length,
      sendB (sOk (ksOf rows) (hsOf rows') a rows2.length now) (nfV (ksOf rows) (hsOf rows') a now) rows rows' [.v (.int .i64 a), .l 1 rows2])
  | _ => none
def sends : List (FuncId × Abs) := [(13, pureAbs g_nearOk), (17, pureAbs g_nearFind), (45, pureAbs g_l1In), (55, frzAbs g_copyM)]
theorem sends_ok : ∀ p ∈ sends, CallOk Try.prog p.1 p.2 := by
  intro p hp
  simp only [sends, List.mem_cons, List.not_mem_nil, or_false] at hp
  rcases hp with rfl | rfl | rfl | rfl
  · exact specNearOk_ok.call
  · exact specNearFind_ok.call
  · exact l1In_ok.call
  · exact l3Copy_ok.callF
set_option maxRecDepth 100000 in
theorem specNearSendM_ok : OwnOk Try.prog 20 (ocOf g_sendM) := by
  refine OwnOk.of_vcM (G := sends) sends_ok mixed Try.func20 (by kernel_rfl) rfl ?_
  intro args cnd r bs hg hc
  unfold g_sendM at hg
  split at hg
  · rename_i sz rows sz' rows' a sz2 rows2 now
    cases hg
    obtain ⟨⟨ks, rfl, hk⟩, ⟨hs, rfl, hh, hd⟩, xs, rfl, hx⟩ := hc
    rw [ksOf_rows, hsOf_rows, rowsOf_len, hRows_len]
    obtain ⟨ok, hok⟩ : ∃ ok, ok = sOk ks hs a xs.length now := ⟨_, rfl⟩
    obtain ⟨link, hlink⟩ : ∃ link, link = nfV ks hs a now := ⟨_, rfl⟩
    rw [← hok, ← hlink]
    refine ⟨⟨fun b hb => by unfold sendB at hb; (repeat' split at hb) <;> simp at hb <;> (try rcases hb with rfl | rfl) <;> simp [Blk.liveB, blkIds], sendR_ids⟩, [.agg [.l 3 (kRows ks), .l 2 (hRows hs)], .v (.int .i64 a), .l 1 (rowsOfBytes xs), .v (.int .i64 now)], rfl, fun w Z s vs h => CvL.ok (.cons (.cons (.l _ _ _ (kRows_w ks)) (.cons (.l _ _ _ (hRows_w hs)) .nil)) (.cons (.refl _) (.cons (.l _ _ _ (rowsOf_w xs)) (.cons (.refl _) .nil)))) h, ?_⟩
    simp (maxSteps := 3000000) only [Try.f20, sends, g_nearOk, g_nearFind, g_l1In, g_copyM, ksOf_rows, hsOf_rows, kRows_len, hRows_len, rowsOf_len, ← hlink, tY2, tY3, tY4, tY5, tY9, tY12, tY21, tY22, tY23, tY24, tY25, tY26, tY39, tY40, tY42, tY43, tY46, tY52, tY53, tY54, tY55, tY64, tY73, tY74, tY95, tY96, tY100, tY102, tY113, tY122, Try.underlying2, Try.underlying3, Try.underlying4, Try.underlying5, Try.underlying9, Try.underlying12, Try.underlying21, Try.underlying22, Try.underlying23, Try.underlying24, Try.underlying25, Try.underlying26, Try.underlying39, Try.underlying40, Try.underlying42, Try.underlying43, Try.underlying46, Try.underlying52, Try.underlying53, Try.underlying54, Try.underlying55, Try.underlying64, Try.underlying73, Try.underlying74, Try.underlying95, Try.underlying96, Try.underlying100, Try.underlying102, Try.underlying113, Try.underlying122, e_skip, e_label, e_ret, e_exit, e_seq, e_cond, e_block, e_region, seqK_normal, seqK_ret, seqK_exit, blkK_normal, blkK_ret, blkK_exit, condK_some, regK_true, regK_false, e_nil, e_cons, gateK_go, gateK_skip, gateK_ask, pickK_some, exK_some, x_pick, x_move, x_assign, x_alloc, x_box, x_build, x_buildSlice, x_load, x_store, x_binOp, x_unOp, x_convert, x_makeSlice, x_slice, x_fieldAddr, x_field, x_indexAddr, x_extract, x_nilCheck, x_call, x_len, x_append, x_min, oMin, x_copy, oCopy, eqAVs, callK_some, done_ret, done_normal, doneO_ret, doneO_normal, endsO_one, endsO_nil, endsO_more, ownAbs, frzAbs, leafs, leafs.leafsL, uniq, idxOf, bk, zipB, Blk.liveB, gate_none, gate_some, gateS_none, gateS_some, gateV_bool, gateV_undef, boolOf, evA, putT, refn, fpD, oBin, oUn, upsl, upl, up, ups, lk, dstsOf, resL, resA, packA, oLoadQ, oLoadKid, oStoreQ, oStoreTree, oBuildSliceQ, oBuildTree, oAppendQ, oAppendTree, isTr, isTrP, tkd, tkds, tkRows, ownOf, nodupB, deadL, treeOf, kidAbs, kidBlk, kidRows, TK.isCell, D.toL, oLoad, oStore, oAlloc, oBox, oBuild, oBuildSlice, oMake, oAppend, oIndexAddr, oFieldAddr, oField, oExtract, oNil, oSlice, oLen, oConvert, rowLoad, fillA, fillR, slB, dk, dks, dkRows, frz, loOf, hiOf, lenOf, rowsOf, nilV, lenV, putAt, views, viewsOk, CK.av, CK.ok, AV.cells, AV.one, Value.oneCell', Value.cells, pureAbs, nrm, nrm.nrmL, hpAt, sh, AV.ren, AV.ren.renL, Blk.ren, fpOf, footO, foot, blkIds, AV.ids, AV.ids.idsL, Op.operands, Call.operands, List.find?_cons, List.find?_nil, Nat.reduceBEq, beq_self_eq_true, List.map_cons, List.map_nil, List.getD_cons_zero, List.getD_cons_succ, List.getD_nil, List.set_cons_zero, List.set_cons_succ, List.length_cons, List.length_nil, List.replicate, List.cons_append, List.nil_append, List.append_nil, List.getElem?_cons_zero, List.getElem?_cons_succ, List.getElem?_toArray, List.getElem?_nil, List.take_zero, List.take_succ_cons, List.take_nil, List.drop_zero, List.drop_succ_cons, List.drop_nil, List.headD_cons, List.tail_cons, List.flatten_cons, List.flatten_nil, List.flatMap_cons, List.flatMap_nil, List.toList_toArray, Array.toList_append, Option.bind_some, Option.map_some, Option.map_none, Option.isSome_some, List.all_nil, List.all_cons, Bool.and_self, Bool.and_true, Bool.true_and, true_and, and_true, ↓reduceIte, List.size_toArray, Bool.false_eq_true, Bool.true_eq_false, false_implies, true_implies, Bool.not_true, Bool.not_false, and_self, implies_true, decide_true, decide_false, Nat.reduceAdd, Nat.reduceMul, Nat.reduceLT, Nat.reduceSub, Nat.reduceLeDiff, Nat.reduceEqDiff, eq_self, ne_eq, not_false_eq_true, false_and, and_false, reduceCtorEq, List.filter_nil, List.filter_cons, List.isEmpty_nil, List.isEmpty_cons, bne_self_eq_false, Nat.reduceBneDiff, Nat.lt_add_one, Nat.zero_lt_succ, List.append_assoc, Nat.zero_le, and_self_iff, Int.reduceToNat, List.any_nil, List.any_cons, List.filterMap_nil, List.filterMap_cons, List.contains_nil, List.contains_cons, Bool.or_false, Bool.false_or, Bool.or_true, Bool.true_or, Bool.false_and, Bool.and_false, decide_eq_true_eq, decide_eq_false_iff_not, beq_iff_eq, Int.toNat_natCast]
    have hl4 : (hRows hs ++ [[D.v (.int .i64 a), D.l 1 (rowsOfBytes xs)]]).length = hs.length + 1 := by rw [List.length_append, hRows_len]; rfl
    refine ⟨⟨⟨_, rfl, by omega⟩, _, rfl, by omega⟩, ?_⟩
    by_cases hs1 : ok = true
    · have hok' := hok.symm.trans hs1
      simp only [sOk, Bool.and_eq_true, decide_eq_true_eq] at hok'
      obtain ⟨h1, h2, h3, h4⟩ := hok'
      have e1 : inZ a 0 65535 = true := by unfold inZ; exact decide_eq_true h2
      have e2 : inZ now 0 999980 = true := by unfold inZ; exact decide_eq_true h4
      rw [if_pos (by simp [h1]), if_pos (by simp [e1]), if_pos (by omega), if_neg (by simp [e2])]
      refine ⟨⟨⟨_, rfl, hk⟩, _, rfl, hh, hd⟩, ⟨⟨_, rfl, by omega⟩, _, rfl, by omega⟩, ?_⟩
      simp only [sendR, sendB, hs1, ↓reduceIte]
      have hs4 := (nOkB_k h1).2.2.1
      clear e1 e2 h2 h3 h4 hok hlink
      by_cases hl : link ≥ 0
      · rw [if_pos hl, if_pos hl, if_pos hl]
        simp only [hpAt]
        exact ⟨[(0, some 352), (1, some 353)], by (refine ⟨?_, ?_, ?_⟩ <;> simp [fitT, fit1, fitH, fitB, trE, emptyB, rn, lk, AV.ren, AV.ren.renL, Blk.ren, blkIds, blkPids, AV.ids, AV.ids.idsL, AV.pids, AV.pids.pidsL, Blk.there]), by simp [keepIds, rn, List.range, List.range.loop]⟩
      · rw [if_neg hl, if_neg hl, if_neg hl]
        refine ⟨⟨by omega, by omega, rowsOf_w _⟩, ⟨by omega, by omega, by simp⟩, by kernel_rfl, ?_⟩
        by_cases h5 : hs.length < 4
        · rw [if_neg (by rw [hl4]; omega), if_pos h5]
          simp only [hpAt]
          exact ⟨[(0, some 352), (1, some 640)], by (refine ⟨?_, ?_, ?_⟩ <;> simp [fitT, fit1, fitH, fitB, trE, emptyB, rn, lk, AV.ren, AV.ren.renL, Blk.ren, blkIds, blkPids, AV.ids, AV.ids.idsL, AV.pids, AV.pids.pidsL, Blk.there]), by simp [keepIds, rn, List.range, List.range.loop]⟩
        · have h6 : hs.length = 4 := by omega
          rw [if_pos (by rw [hl4]; omega), if_neg h5, hl4, h6]
          simp only [hpAt]
          exact ⟨by omega, [(0, some 352), (1, some 640)], by (refine ⟨?_, ?_, ?_⟩ <;> simp [fitT, fit1, fitH, fitB, trE, emptyB, rn, lk, AV.ren, AV.ren.renL, Blk.ren, blkIds, blkPids, AV.ids, AV.ids.idsL, AV.pids, AV.pids.pidsL, Blk.there]), by simp [keepIds, rn, List.range, List.range.loop]⟩
    · have hs2 : ok = false := by simpa using hs1
      simp only [sendR, sendB, hs2, ↓reduceIte, Bool.false_eq_true, hpAt]
      by_cases h1 : nOkB ks hs = true
      · rw [if_pos (by simp [h1])]
        by_cases h2 : inZ a 0 65535 = true
        · rw [if_pos (by simp [h2])]
          by_cases h3 : (xs.length : Int) > 64
          · rw [if_neg (by omega)]
            exact ⟨[], by (refine ⟨?_, ?_, ?_⟩ <;> simp [fitT, fit1, fitH, fitB, trE, emptyB, rn, lk, AV.ren, AV.ren.renL, Blk.ren, blkIds, blkPids, AV.ids, AV.ids.idsL, AV.pids, AV.pids.pidsL, Blk.there]), by simp [keepIds, rn, List.range, List.range.loop]⟩
          · rw [if_pos h3]
            by_cases h4 : inZ now 0 999980 = true
            · exfalso
              refine hs1 (hok.trans ?_)
              simp only [inZ, decide_eq_true_eq] at h2 h4
              simp only [sOk, h1, Bool.true_and, decide_eq_true_eq]
              omega
            · rw [if_pos (by simp [h4])]
              exact ⟨[], by (refine ⟨?_, ?_, ?_⟩ <;> simp [fitT, fit1, fitH, fitB, trE, emptyB, rn, lk, AV.ren, AV.ren.renL, Blk.ren, blkIds, blkPids, AV.ids, AV.ids.idsL, AV.pids, AV.pids.pidsL, Blk.there]), by simp [keepIds, rn, List.range, List.range.loop]⟩
        · rw [if_neg (by simp [h2])]
          exact ⟨[], by (refine ⟨?_, ?_, ?_⟩ <;> simp [fitT, fit1, fitH, fitB, trE, emptyB, rn, lk, AV.ren, AV.ren.renL, Blk.ren, blkIds, blkPids, AV.ids, AV.ids.idsL, AV.pids, AV.pids.pidsL, Blk.there]), by simp [keepIds, rn, List.range, List.range.loop]⟩
      · rw [if_neg (by simp [h1])]
        exact ⟨[], by (refine ⟨?_, ?_, ?_⟩ <;> simp [fitT, fit1, fitH, fitB, trE, emptyB, rn, lk, AV.ren, AV.ren.renL, Blk.ren, blkIds, blkPids, AV.ids, AV.ids.idsL, AV.pids, AV.pids.pidsL, Blk.there]), by simp [keepIds, rn, List.range, List.range.loop]⟩
  · cases hg
end Go.Proofs.Ytfdgdffljaccdaa

namespace Go.Proofs.Ytfdgdffljaccdaa
open Go.RowKit
set_option linter.unusedSimpArgs false

/-! a query is heard -/
def sRows (ds : List (List UInt8)) : List (List D) := ds.map fun d => [.l 1 (rowsOfBytes d)]
def kOut (ks : List KE) (a : Int) : List KE := ks.filter fun e => e.a != a
def hOut (hs : List HE) (a : Int) : List HE := hs.filter fun h => h.a != a
def sentOf (hs : List HE) (a : Int) : List (List UInt8) := (hs.filter fun h => h.a == a).map HE.d
def wantB (ks : List KE) (hs : List HE) (own qa qw : Int) : Bool := (qw == own || ks.any fun e => e.a == qa) || hs.any fun h => h.a == qa
def rOk (ks : List KE) (hs : List HE) (qk ql qa qw now : Int) : Bool := nOkB ks hs && (qB qk ql qa qw && decide (0 ≤ now ∧ now ≤ 999980))
def hearR (ok want : Bool) (n : Nat) : AV :=
  if ok = true then (if want = true then (if n < 4 then .tup [.agg [.own 0, .own 1], .own 2] else .tup [.agg [.sub 0 1 5, .own 1], .own 2]) else .tup [.agg [.own 0, .own 1], .own 2])
  else .tup [.agg [nilA, nilA], .own 0]
def hearB (ok want : Bool) (ks : List KE) (hs : List HE) (e : KE) : List Blk :=
  if ok = true then (if want = true then [.sl 74 3 (kRows (kOut ks e.a ++ [e])), .sl 40 2 (hRows (hOut hs e.a)), .sl 22 1 (sRows (sentOf hs e.a))] else [.sl 74 3 (kRows ks), .sl 40 2 (hRows hs), .sl 22 1 []])
  else [.sl 22 1 []]
def g_hearM : PC := fun args => match args with
  | [.agg [.l _ rows, .l _ rows'], .v (.int .i64 own), .agg [.v (.int .i64 qk), .v (.int .i64 ql), .v (.int .i64 qa), .v (.int .i64 qw)], .v (.int .i64 now)] => some ((∃ ks, rows = kRows ks ∧ ks.length ≤ 1048576) ∧ (∃ hs, rows' = hRows hs ∧ hMid hs),
      hearR (rOk (ksOf rows) (hsOf rows') qk ql qa qw now) (wantB (ksOf rows) (hsOf rows') own qa qw) (kOut (ksOf rows) qa).length,
      hearB (rOk (ksOf rows) (hsOf rows') qk ql qa qw now) (wantB (ksOf rows) (hsOf rows') own qa qw) (ksOf rows) (hsOf rows') ⟨qa, ql, now + 20⟩)
  | _ => none
def hears : List (FuncId × Abs) := [(13, pureAbs g_nearOk), (60, pureAbs g_queryOk), (45, pureAbs g_l1In), (55, frzAbs g_copyM)]
end Go.Proofs.Ytfdgdffljaccdaa
