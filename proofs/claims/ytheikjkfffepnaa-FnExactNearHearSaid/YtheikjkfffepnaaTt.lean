import Derived.Test.YtheikjkfffepnaaTn
import Derived.Test.YtheikjkfffepnaaTd
import Derived.Test.YtheikjkfffepnaaR6
namespace Go.Proofs.Ytheikjkfffepnaa
open Go.RowKit
set_option linter.unusedSimpArgs false

/-! what a station knows and keeps, copied and changed -/
def hMid (hs : List HE) : Prop := hs.length ≤ 1048576 ∧ ∀ h ∈ hs, h.d.length ≤ 1048576
def g_copyM : PC := fun args => match args with
  | [.agg [.l _ rows, .l _ rows']] => some ((∃ ks, rows = kRows ks ∧ ks.length ≤ 1048576) ∧ (∃ hs, rows' = hRows hs ∧ hMid hs), .agg [.own 0, .own 1], [.sl 50 3 rows, .sl 53 2 rows'])
  | _ => none
set_option maxRecDepth 100000 in
theorem l3Copy_ok : OwnOk Try.prog 20 (ocOf g_copyM) := by
  refine OwnOk.of_vcM (G := []) (by simp) mixed Try.func20 (by kernel_rfl) rfl ?_
  intro args cnd r bs hg hc
  unfold g_copyM at hg
  split at hg
  · rename_i sz rows sz' rows'
    cases hg
    obtain ⟨⟨ks, rfl, hk⟩, hs, rfl, hh, hd⟩ := hc
    refine ⟨⟨by simp [Blk.liveB, blkIds, AV.ids.idsL, AV.ids], by simp [AV.ids, AV.ids.idsL]⟩, [.agg [.l 3 (kRows ks), .l 2 (hRows hs)]], rfl, fun w Z s vs h => CvL.ok (.cons (.cons (.l _ _ _ (kRows_w ks)) (.cons (.l _ _ _ (hRows_w hs)) .nil)) .nil) h, ?_⟩
    simp (maxSteps := 3000000) only [Try.f20, kRows_len, hRows_len, tY2, tY3, tY4, tY5, tY9, tY12, tY21, tY22, tY23, tY24, tY25, tY26, tY27, tY29, tY30, tY31, tY32, tY33, tY37, tY49, tY50, tY51, tY52, tY53, tY68, tY70, tY87, tY96, Try.underlying2, Try.underlying3, Try.underlying4, Try.underlying5, Try.underlying9, Try.underlying12, Try.underlying21, Try.underlying22, Try.underlying23, Try.underlying24, Try.underlying25, Try.underlying26, Try.underlying27, Try.underlying29, Try.underlying30, Try.underlying31, Try.underlying32, Try.underlying33, Try.underlying37, Try.underlying49, Try.underlying50, Try.underlying51, Try.underlying52, Try.underlying53, Try.underlying68, Try.underlying70, Try.underlying87, Try.underlying96, e_skip, e_label, e_ret, e_exit, e_seq, e_cond, e_block, e_region, seqK_normal, seqK_ret, seqK_exit, blkK_normal, blkK_ret, blkK_exit, condK_some, regK_true, regK_false, e_nil, e_cons, gateK_go, gateK_skip, gateK_ask, pickK_some, exK_some, x_pick, x_move, x_assign, x_alloc, x_box, x_build, x_buildSlice, x_load, x_store, x_binOp, x_unOp, x_convert, x_makeSlice, x_slice, x_fieldAddr, x_field, x_indexAddr, x_extract, x_nilCheck, x_call, x_len, x_append, x_min, oMin, x_copy, oCopy, eqAVs, callK_some, done_ret, done_normal, doneO_ret, doneO_normal, endsO_one, endsO_nil, endsO_more, ownAbs, frzAbs, leafs, leafs.leafsL, uniq, idxOf, bk, zipB, Blk.liveB, gate_none, gate_some, gateS_none, gateS_some, gateV_bool, gateV_undef, boolOf, evA, putT, refn, fpD, oBin, oUn, upsl, upl, up, ups, lk, dstsOf, resL, resA, packA, oLoadQ, oLoadKid, oStoreQ, oStoreTree, oBuildSliceQ, oBuildTree, oAppendQ, oAppendTree, isTr, isTrP, tkd, tkds, tkRows, ownOf, nodupB, deadL, treeOf, kidAbs, kidBlk, kidRows, TK.isCell, D.toL, oLoad, oStore, oAlloc, oBox, oBuild, oBuildSlice, oMake, oAppend, oIndexAddr, oFieldAddr, oField, oExtract, oNil, oSlice, oLen, oConvert, rowLoad, fillA, fillR, slB, dk, dks, dkRows, frz, loOf, hiOf, lenOf, rowsOf, nilV, lenV, putAt, views, viewsOk, CK.av, CK.ok, AV.cells, AV.one, Value.oneCell', Value.cells, pureAbs, nrm, nrm.nrmL, hpAt, sh, AV.ren, AV.ren.renL, Blk.ren, fpOf, footO, foot, blkIds, AV.ids, AV.ids.idsL, Op.operands, Call.operands, List.find?_cons, List.find?_nil, Nat.reduceBEq, beq_self_eq_true, List.map_cons, List.map_nil, List.getD_cons_zero, List.getD_cons_succ, List.getD_nil, List.set_cons_zero, List.set_cons_succ, List.length_cons, List.length_nil, List.replicate, List.cons_append, List.nil_append, List.append_nil, List.getElem?_cons_zero, List.getElem?_cons_succ, List.getElem?_toArray, List.getElem?_nil, List.take_zero, List.take_succ_cons, List.take_nil, List.drop_zero, List.drop_succ_cons, List.drop_nil, List.headD_cons, List.tail_cons, List.flatten_cons, List.flatten_nil, List.flatMap_cons, List.flatMap_nil, List.toList_toArray, Array.toList_append, Option.bind_some, Option.map_some, Option.map_none, Option.isSome_some, List.all_nil, List.all_cons, Bool.and_self, Bool.and_true, Bool.true_and, true_and, and_true, ↓reduceIte, List.size_toArray, Bool.false_eq_true, Bool.true_eq_false, false_implies, true_implies, Bool.not_true, Bool.not_false, and_self, implies_true, decide_true, decide_false, Nat.reduceAdd, Nat.reduceMul, Nat.reduceLT, Nat.reduceSub, Nat.reduceLeDiff, Nat.reduceEqDiff, eq_self, ne_eq, not_false_eq_true, false_and, and_false, reduceCtorEq, List.filter_nil, List.filter_cons, List.isEmpty_nil, List.isEmpty_cons, bne_self_eq_false, Nat.reduceBneDiff, Nat.lt_add_one, Nat.zero_lt_succ, List.append_assoc, Nat.zero_le, and_self_iff, Int.reduceToNat, List.any_nil, List.any_cons, List.filterMap_nil, List.filterMap_cons, List.contains_nil, List.contains_cons, Bool.or_false, Bool.false_or, Bool.or_true, Bool.true_or, Bool.false_and, Bool.and_false, decide_eq_true_eq, decide_eq_false_iff_not, beq_iff_eq, Int.toNat_natCast]
    refine ⟨⟨by omega, by omega, kRows_w _⟩, ?_⟩
    refine e_loop _ _ _ _ _ _ _ _ (fun k : Nat => [.any, .ptr 0 0, .ptr 4 0, .ptr 1 0, .v (.int .i64 (k : Int))] ++ List.replicate (Try.f20.ntmps - 5) .any) (fun k => [(0, .var 32 [.l 3 (kRows ks), .l 2 (hRows hs)]), (1, .var 32 [.own 2, .own 3]), (2, .sl 50 3 (kRows ks)), (3, .sl 53 2 (hRows (hs.take k))), (4, .var 32 [.v (.slice none 0 0), .v (.slice none 0 0)])]) (fun k => k ≤ hs.length) (fun k => hs.length - k) 5 (fun k => by simp) ⟨0, [(1, some 112), (2, some 80), (3, none), (4, some 16)], by omega, ?_, by simp [keepIds]⟩ fun k hk' => ?_
    · simp only [Try.f20, List.take_zero, show hRows [] = [] from rfl]
      (refine ⟨?_, ?_, ?_⟩ <;> simp [fitT, fit1, fitH, fitB, trE, emptyB, rn, lk, AV.ren, AV.ren.renL, Blk.ren, blkIds, blkPids, AV.ids, AV.ids.idsL, AV.pids, AV.pids.pidsL, Blk.there])
      rfl
    · have w2 : IntKind.i64.wrap ((k : Int) + 1) = ((k + 1 : Nat) : Int) := by rw [wrap_id] <;> omega
      by_cases h : k < hs.length
      · have hrow := hRows_get hs k h
        have hlt : ((k : Int) < (hs.length : Int)) = True := eq_true (by omega)
        have h0 : (0 ≤ (k : Int)) = True := eq_true (by omega)
        simp (maxSteps := 3000000) only [Try.f20, hRows_len, hrow, hlt, h0, D.toI, D.toL, rowsOf_len, tY2, tY3, tY4, tY5, tY9, tY12, tY21, tY22, tY23, tY24, tY25, tY26, tY27, tY29, tY30, tY31, tY32, tY33, tY37, tY49, tY50, tY51, tY52, tY53, tY68, tY70, tY87, tY96, Try.underlying2, Try.underlying3, Try.underlying4, Try.underlying5, Try.underlying9, Try.underlying12, Try.underlying21, Try.underlying22, Try.underlying23, Try.underlying24, Try.underlying25, Try.underlying26, Try.underlying27, Try.underlying29, Try.underlying30, Try.underlying31, Try.underlying32, Try.underlying33, Try.underlying37, Try.underlying49, Try.underlying50, Try.underlying51, Try.underlying52, Try.underlying53, Try.underlying68, Try.underlying70, Try.underlying87, Try.underlying96, e_skip, e_label, e_ret, e_exit, e_seq, e_cond, e_block, e_region, seqK_normal, seqK_ret, seqK_exit, blkK_normal, blkK_ret, blkK_exit, condK_some, regK_true, regK_false, e_nil, e_cons, gateK_go, gateK_skip, gateK_ask, pickK_some, exK_some, x_pick, x_move, x_assign, x_alloc, x_box, x_build, x_buildSlice, x_load, x_store, x_binOp, x_unOp, x_convert, x_makeSlice, x_slice, x_fieldAddr, x_field, x_indexAddr, x_extract, x_nilCheck, x_call, x_len, x_append, x_min, oMin, x_copy, oCopy, eqAVs, callK_some, done_ret, done_normal, doneO_ret, doneO_normal, endsO_one, endsO_nil, endsO_more, ownAbs, frzAbs, leafs, leafs.leafsL, uniq, idxOf, bk, zipB, Blk.liveB, gate_none, gate_some, gateS_none, gateS_some, gateV_bool, gateV_undef, boolOf, evA, putT, refn, fpD, oBin, oUn, upsl, upl, up, ups, lk, dstsOf, resL, resA, packA, oLoadQ, oLoadKid, oStoreQ, oStoreTree, oBuildSliceQ, oBuildTree, oAppendQ, oAppendTree, isTr, isTrP, tkd, tkds, tkRows, ownOf, nodupB, deadL, treeOf, kidAbs, kidBlk, kidRows, TK.isCell, D.toL, oLoad, oStore, oAlloc, oBox, oBuild, oBuildSlice, oMake, oAppend, oIndexAddr, oFieldAddr, oField, oExtract, oNil, oSlice, oLen, oConvert, rowLoad, fillA, fillR, slB, dk, dks, dkRows, frz, loOf, hiOf, lenOf, rowsOf, nilV, lenV, putAt, views, viewsOk, CK.av, CK.ok, AV.cells, AV.one, Value.oneCell', Value.cells, pureAbs, nrm, nrm.nrmL, hpAt, sh, AV.ren, AV.ren.renL, Blk.ren, fpOf, footO, foot, blkIds, AV.ids, AV.ids.idsL, Op.operands, Call.operands, List.find?_cons, List.find?_nil, Nat.reduceBEq, beq_self_eq_true, List.map_cons, List.map_nil, List.getD_cons_zero, List.getD_cons_succ, List.getD_nil, List.set_cons_zero, List.set_cons_succ, List.length_cons, List.length_nil, List.replicate, List.cons_append, List.nil_append, List.append_nil, List.getElem?_cons_zero, List.getElem?_cons_succ, List.getElem?_toArray, List.getElem?_nil, List.take_zero, List.take_succ_cons, List.take_nil, List.drop_zero, List.drop_succ_cons, List.drop_nil, List.headD_cons, List.tail_cons, List.flatten_cons, List.flatten_nil, List.flatMap_cons, List.flatMap_nil, List.toList_toArray, Array.toList_append, Option.bind_some, Option.map_some, Option.map_none, Option.isSome_some, List.all_nil, List.all_cons, Bool.and_self, Bool.and_true, Bool.true_and, true_and, and_true, ↓reduceIte, List.size_toArray, Bool.false_eq_true, Bool.true_eq_false, false_implies, true_implies, Bool.not_true, Bool.not_false, and_self, implies_true, decide_true, decide_false, Nat.reduceAdd, Nat.reduceMul, Nat.reduceLT, Nat.reduceSub, Nat.reduceLeDiff, Nat.reduceEqDiff, eq_self, ne_eq, not_false_eq_true, false_and, and_false, reduceCtorEq, List.filter_nil, List.filter_cons, List.isEmpty_nil, List.isEmpty_cons, bne_self_eq_false, Nat.reduceBneDiff, Nat.lt_add_one, Nat.zero_lt_succ, List.append_assoc, Nat.zero_le, and_self_iff, Int.reduceToNat, List.any_nil, List.any_cons, List.filterMap_nil, List.filterMap_cons, List.contains_nil, List.contains_cons, Bool.or_false, Bool.false_or, Bool.or_true, Bool.true_or, Bool.false_and, Bool.and_false, decide_eq_true_eq, decide_eq_false_iff_not, beq_iff_eq, Int.toNat_natCast, loopK_normal, loopK_exit, loopK_ret, w2]
        have e : hRows (hs.take k) ++ [[D.v (.int .i64 hs[k].a), D.l 1 (rowsOfBytes hs[k].d)]] = hRows (hs.take (k + 1)) := by
          rw [List.take_add_one, List.getElem?_eq_getElem h, ← hRows_app]; rfl
        have hdk := hd hs[k] (List.getElem_mem h)
        rw [e]
        refine ⟨⟨by omega, by omega, rowsOf_w _⟩, ⟨by rw [List.length_take]; omega, by rw [List.length_take]; omega, by simp⟩, by kernel_rfl, k + 1, [(3, some 373)], by omega, by omega, ?_, by simp [keepIds]⟩
        clear e hrow hlt h0 w2
        (refine ⟨?_, ?_, ?_⟩ <;> simp [fitT, fit1, fitH, fitB, trE, emptyB, rn, lk, AV.ren, AV.ren.renL, Blk.ren, blkIds, blkPids, AV.ids, AV.ids.idsL, AV.pids, AV.pids.pidsL, Blk.there])
      · have hlt : ((k : Int) < (hs.length : Int)) = False := eq_false (by omega)
        simp (maxSteps := 3000000) only [Try.f20, hRows_len, hlt, tY2, tY3, tY4, tY5, tY9, tY12, tY21, tY22, tY23, tY24, tY25, tY26, tY27, tY29, tY30, tY31, tY32, tY33, tY37, tY49, tY50, tY51, tY52, tY53, tY68, tY70, tY87, tY96, Try.underlying2, Try.underlying3, Try.underlying4, Try.underlying5, Try.underlying9, Try.underlying12, Try.underlying21, Try.underlying22, Try.underlying23, Try.underlying24, Try.underlying25, Try.underlying26, Try.underlying27, Try.underlying29, Try.underlying30, Try.underlying31, Try.underlying32, Try.underlying33, Try.underlying37, Try.underlying49, Try.underlying50, Try.underlying51, Try.underlying52, Try.underlying53, Try.underlying68, Try.underlying70, Try.underlying87, Try.underlying96, e_skip, e_label, e_ret, e_exit, e_seq, e_cond, e_block, e_region, seqK_normal, seqK_ret, seqK_exit, blkK_normal, blkK_ret, blkK_exit, condK_some, regK_true, regK_false, e_nil, e_cons, gateK_go, gateK_skip, gateK_ask, pickK_some, exK_some, x_pick, x_move, x_assign, x_alloc, x_box, x_build, x_buildSlice, x_load, x_store, x_binOp, x_unOp, x_convert, x_makeSlice, x_slice, x_fieldAddr, x_field, x_indexAddr, x_extract, x_nilCheck, x_call, x_len, x_append, x_min, oMin, x_copy, oCopy, eqAVs, callK_some, done_ret, done_normal, doneO_ret, doneO_normal, endsO_one, endsO_nil, endsO_more, ownAbs, frzAbs, leafs, leafs.leafsL, uniq, idxOf, bk, zipB, Blk.liveB, gate_none, gate_some, gateS_none, gateS_some, gateV_bool, gateV_undef, boolOf, evA, putT, refn, fpD, oBin, oUn, upsl, upl, up, ups, lk, dstsOf, resL, resA, packA, oLoadQ, oLoadKid, oStoreQ, oStoreTree, oBuildSliceQ, oBuildTree, oAppendQ, oAppendTree, isTr, isTrP, tkd, tkds, tkRows, ownOf, nodupB, deadL, treeOf, kidAbs, kidBlk, kidRows, TK.isCell, D.toL, oLoad, oStore, oAlloc, oBox, oBuild, oBuildSlice, oMake, oAppend, oIndexAddr, oFieldAddr, oField, oExtract, oNil, oSlice, oLen, oConvert, rowLoad, fillA, fillR, slB, dk, dks, dkRows, frz, loOf, hiOf, lenOf, rowsOf, nilV, lenV, putAt, views, viewsOk, CK.av, CK.ok, AV.cells, AV.one, Value.oneCell', Value.cells, pureAbs, nrm, nrm.nrmL, hpAt, sh, AV.ren, AV.ren.renL, Blk.ren, fpOf, footO, foot, blkIds, AV.ids, AV.ids.idsL, Op.operands, Call.operands, List.find?_cons, List.find?_nil, Nat.reduceBEq, beq_self_eq_true, List.map_cons, List.map_nil, List.getD_cons_zero, List.getD_cons_succ, List.getD_nil, List.set_cons_zero, List.set_cons_succ, List.length_cons, List.length_nil, List.replicate, List.cons_append, List.nil_append, List.append_nil, List.getElem?_cons_zero, List.getElem?_cons_succ, List.getElem?_toArray, List.getElem?_nil, List.take_zero, List.take_succ_cons, List.take_nil, List.drop_zero, List.drop_succ_cons, List.drop_nil, List.headD_cons, List.tail_cons, List.flatten_cons, List.flatten_nil, List.flatMap_cons, List.flatMap_nil, List.toList_toArray, Array.toList_append, Option.bind_some, Option.map_some, Option.map_none, Option.isSome_some, List.all_nil, List.all_cons, Bool.and_self, Bool.and_true, Bool.true_and, true_and, and_true, ↓reduceIte, List.size_toArray, Bool.false_eq_true, Bool.true_eq_false, false_implies, true_implies, Bool.not_true, Bool.not_false, and_self, implies_true, decide_true, decide_false, Nat.reduceAdd, Nat.reduceMul, Nat.reduceLT, Nat.reduceSub, Nat.reduceLeDiff, Nat.reduceEqDiff, eq_self, ne_eq, not_false_eq_true, false_and, and_false, reduceCtorEq, List.filter_nil, List.filter_cons, List.isEmpty_nil, List.isEmpty_cons, bne_self_eq_false, Nat.reduceBneDiff, Nat.lt_add_one, Nat.zero_lt_succ, List.append_assoc, Nat.zero_le, and_self_iff, Int.reduceToNat, List.any_nil, List.any_cons, List.filterMap_nil, List.filterMap_cons, List.contains_nil, List.contains_cons, Bool.or_false, Bool.false_or, Bool.or_true, Bool.true_or, Bool.false_and, Bool.and_false, decide_eq_true_eq, decide_eq_false_iff_not, beq_iff_eq, Int.toNat_natCast, loopK_normal, loopK_exit, loopK_ret, w2]
        obtain rfl : k = hs.length := by omega
        rw [List.take_length]
        exact ⟨[(0, some 2), (1, some 3)], by (refine ⟨?_, ?_, ?_⟩ <;> simp [fitT, fit1, fitH, fitB, trE, emptyB, rn, lk, AV.ren, AV.ren.renL, Blk.ren, blkIds, blkPids, AV.ids, AV.ids.idsL, AV.pids, AV.pids.pidsL, Blk.there]), by simp [keepIds, rn, List.range, List.range.loop]⟩
  · cases hg

/-! bytes are to be sent -/
def sOk (ks : List KE) (hs : List HE) (a : Int) (n : Nat) (now : Int) : Bool := nOkB ks hs && decide ((0 ≤ a ∧ a ≤ 65535) ∧ n ≤ 64 ∧ 0 ≤ now ∧ now ≤ 999980)
abbrev nilA : AV := .v (.slice none 0 0)
def sendR (ok : Bool) (link : Int) (n : Nat) : AV :=
  if ok = true then (if 0 ≤ link then .tup [.agg [.own 0, .own 1], .v (.int .i64 link)] else if n < 4 then .tup [.agg [.own 0, .own 1], .v (.int .i64 (-1))] else .tup [.agg [.own 0, .sub 1 1 5], .v (.int .i64 (-1))])
  else .tup [.agg [nilA, nilA], .v (.int .i64 (-1))]
def sendB (ok : Bool) (link : Int) (rows rows' : List (List D)) (row : List D) : List Blk :=
  if ok = true then (if 0 ≤ link then [.sl 50 3 rows, .sl 53 2 rows'] else [.sl 50 3 rows, .sl 53 2 (rows' ++ [row])])
  else []
def g_sendM : PC := fun args => match args with
  | [.agg [.l _ rows, .l _ rows'], .v (.int .i64 a), .l _ rows2, .v (.int .i64 now)] => some ((∃ ks, rows = kRows ks ∧ ks.length ≤ 1048576) ∧ (∃ hs, rows' = hRows hs ∧ hMid hs) ∧ (∃ xs, rows2 = rowsOfBytes xs ∧ xs.length ≤ 1048576),
      sendR (sOk (ksOf rows) (hsOf rows') a rows2.length now) (nfV (ksOf rows) (hsOf rows') a now) rows'.length,
      sendB (sOk (ksOf rows) (hsOf rows') a rows2.length now) (nfV (ksOf rows) (hsOf rows') a now) rows rows' [.v (.int .i64 a), .l 1 rows2])
  | _ => none
end Go.Proofs.Ytheikjkfffepnaa

namespace Go.Proofs.Ytheikjkfffepnaa
open Go.RowKit
set_option linter.unusedSimpArgs false

/-! a query is heard -/
def sRows (ds : List (List UInt8)) : List (List D) := ds.map fun d => [.l 1 (rowsOfBytes d)]
theorem sRows_len (ds : List (List UInt8)) : (sRows ds).length = ds.length := by simp [sRows]
theorem sRows_w (ds : List (List UInt8)) : ∀ r ∈ sRows ds, r.length = 1 := fun r hr => by
  obtain ⟨e, _, rfl⟩ := List.mem_map.1 hr
  rfl
theorem sRows_app (a b : List (List UInt8)) : sRows a ++ sRows b = sRows (a ++ b) := by simp [sRows]
def kOut (ks : List KE) (a : Int) : List KE := ks.filter fun e => e.a != a
def hOut (hs : List HE) (a : Int) : List HE := hs.filter fun h => h.a != a
def sentOf (hs : List HE) (a : Int) : List (List UInt8) := (hs.filter fun h => h.a == a).map HE.d
def wantB (ks : List KE) (hs : List HE) (own qa qw : Int) : Bool := (qw == own || ks.any fun e => e.a == qa) || hs.any fun h => h.a == qa
def rOk (ks : List KE) (hs : List HE) (qk ql qa qw now : Int) : Bool := nOkB ks hs && (qB qk ql qa qw && decide (0 ≤ now ∧ now ≤ 999980))
def hearR (ok want : Bool) (n : Nat) : AV :=
  if ok = true then (if want = true then (if n < 4 then .tup [.agg [.own 0, .own 1], .own 2] else .tup [.agg [.sub 0 1 5, .own 1], .own 2]) else .tup [.agg [.own 0, .own 1], .own 2])
  else .tup [.agg [nilA, nilA], .own 0]
def hearB (ok want : Bool) (ks : List KE) (hs : List HE) (e : KE) : List Blk :=
  if ok = true then (if want = true then [.sl 50 3 (kRows (kOut ks e.a ++ [e])), .sl 53 2 (hRows (hOut hs e.a)), .sl 51 1 (sRows (sentOf hs e.a))] else [.sl 50 3 (kRows ks), .sl 53 2 (hRows hs), .sl 51 1 []])
  else [.sl 51 1 []]
theorem hearR_ids {ok want : Bool} {n : Nat} {ks : List KE} {hs : List HE} {e : KE} : ∀ k ∈ (hearR ok want n).ids, k < (hearB ok want ks hs e).length := by
  intro k hk
  unfold hearR at hk
  unfold hearB
  by_cases h1 : ok = true
  · rw [if_pos h1] at hk ⊢
    by_cases h2 : want = true
    · rw [if_pos h2] at hk ⊢
      by_cases h3 : n < 4
      · rw [if_pos h3] at hk
        simp [AV.ids, AV.ids.idsL] at hk ⊢
        omega
      · rw [if_neg h3] at hk
        simp [AV.ids, AV.ids.idsL] at hk ⊢
        omega
    · rw [if_neg h2] at hk ⊢
      simp [AV.ids, AV.ids.idsL] at hk ⊢
      omega
  · rw [if_neg h1] at hk ⊢
    simp [AV.ids, AV.ids.idsL] at hk ⊢
    omega
theorem hearB_live {ok want : Bool} {ks : List KE} {hs : List HE} {e : KE} : ∀ b ∈ hearB ok want ks hs e, b.liveB = true ∧ blkIds b = [] := by
  intro b hb
  unfold hearB at hb
  (repeat' split at hb) <;> simp at hb <;> (try rcases hb with rfl | rfl | rfl) <;> simp_all [Blk.liveB, blkIds]
def g_hearM : PC := fun args => match args with
  | [.agg [.l _ rows, .l _ rows'], .v (.int .i64 own), .agg [.v (.int .i64 qk), .v (.int .i64 ql), .v (.int .i64 qa), .v (.int .i64 qw)], .v (.int .i64 now)] => some ((∃ ks, rows = kRows ks ∧ ks.length ≤ 1048576) ∧ (∃ hs, rows' = hRows hs ∧ hMid hs),
      hearR (rOk (ksOf rows) (hsOf rows') qk ql qa qw now) (wantB (ksOf rows) (hsOf rows') own qa qw) (kOut (ksOf rows) qa).length,
      hearB (rOk (ksOf rows) (hsOf rows') qk ql qa qw now) (wantB (ksOf rows) (hsOf rows') own qa qw) (ksOf rows) (hsOf rows') ⟨qa, ql, now + 20⟩)
  | _ => none
theorem filter_take {α : Type} (p : α → Bool) (l : List α) (k : Nat) (h : k < l.length) : (l.take (k + 1)).filter p = (l.take k).filter p ++ if p l[k] = true then [l[k]] else [] := by
  rw [List.take_add_one, List.getElem?_eq_getElem h, List.filter_append]
  by_cases hp : p l[k] = true <;> simp [hp]
theorem any_take {α : Type} (p : α → Bool) (l : List α) (k : Nat) (h : k < l.length) : (l.take (k + 1)).any p = ((l.take k).any p || p l[k]) := by
  rw [List.take_add_one, List.getElem?_eq_getElem h, List.any_append]
  simp
theorem filter_le {α : Type} (p : α → Bool) (l : List α) (k : Nat) : ((l.take k).filter p).length ≤ l.length :=
  Nat.le_trans (List.length_filter_le _ _) (by rw [List.length_take]; omega)
def hears : List (FuncId × Abs) := [(17, pureAbs g_nearOk), (18, pureAbs g_queryOk), (19, pureAbs g_l1In), (20, frzAbs g_copyM)]
theorem hears_ok : ∀ p ∈ hears, CallOk Try.prog p.1 p.2 := by
  intro p hp
  simp only [hears, List.mem_cons, List.not_mem_nil, or_false] at hp
  rcases hp with rfl | rfl | rfl | rfl
  · exact specNearOk_ok.call
  · exact specQueryOk_ok.call
  · exact l1In_ok.call
  · exact l3Copy_ok.callF
set_option maxRecDepth 100000 in
theorem specNearHearM_ok : OwnOk Try.prog 5 (ocOf g_hearM) := by
  refine OwnOk.of_vcM (G := hears) hears_ok mixed Try.func5 (by kernel_rfl) rfl ?_
  intro args cnd r bs hg hc
  unfold g_hearM at hg
  split at hg
  · rename_i sz rows sz' rows' own qk ql qa qw now
    cases hg
    obtain ⟨⟨ks, rfl, hk⟩, hs, rfl, hh, hd⟩ := hc
    rw [ksOf_rows, hsOf_rows]
    obtain ⟨ok, hok⟩ : ∃ ok, ok = rOk ks hs qk ql qa qw now := ⟨_, rfl⟩
    obtain ⟨want, hwant⟩ : ∃ want, want = wantB ks hs own qa qw := ⟨_, rfl⟩
    rw [← hok, ← hwant]
    refine ⟨⟨hearB_live, hearR_ids⟩, [.agg [.l 3 (kRows ks), .l 2 (hRows hs)], .v (.int .i64 own), .agg [.v (.int .i64 qk), .v (.int .i64 ql), .v (.int .i64 qa), .v (.int .i64 qw)], .v (.int .i64 now)], rfl, fun w Z s vs h => CvL.ok (.cons (.cons (.l _ _ _ (kRows_w ks)) (.cons (.l _ _ _ (hRows_w hs)) .nil)) (.cons (.refl _) (.cons (.refl _) (.cons (.refl _) .nil)))) h, ?_⟩
    simp (maxSteps := 3000000) only [Try.f5, hears, g_nearOk, g_queryOk, g_l1In, ksOf_rows, hsOf_rows, kRows_len, hRows_len, tY2, tY3, tY4, tY5, tY9, tY12, tY21, tY22, tY23, tY24, tY25, tY26, tY27, tY29, tY30, tY31, tY32, tY33, tY37, tY49, tY50, tY51, tY52, tY53, tY68, tY70, tY87, tY96, Try.underlying2, Try.underlying3, Try.underlying4, Try.underlying5, Try.underlying9, Try.underlying12, Try.underlying21, Try.underlying22, Try.underlying23, Try.underlying24, Try.underlying25, Try.underlying26, Try.underlying27, Try.underlying29, Try.underlying30, Try.underlying31, Try.underlying32, Try.underlying33, Try.underlying37, Try.underlying49, Try.underlying50, Try.underlying51, Try.underlying52, Try.underlying53, Try.underlying68, Try.underlying70, Try.underlying87, Try.underlying96, e_skip, e_label, e_ret, e_exit, e_seq, e_cond, e_block, e_region, seqK_normal, seqK_ret, seqK_exit, blkK_normal, blkK_ret, blkK_exit, condK_some, regK_true, regK_false, e_nil, e_cons, gateK_go, gateK_skip, gateK_ask, pickK_some, exK_some, x_pick, x_move, x_assign, x_alloc, x_box, x_build, x_buildSlice, x_load, x_store, x_binOp, x_unOp, x_convert, x_makeSlice, x_slice, x_fieldAddr, x_field, x_indexAddr, x_extract, x_nilCheck, x_call, x_len, x_append, x_min, oMin, x_copy, oCopy, eqAVs, callK_some, done_ret, done_normal, doneO_ret, doneO_normal, endsO_one, endsO_nil, endsO_more, ownAbs, frzAbs, leafs, leafs.leafsL, uniq, idxOf, bk, zipB, Blk.liveB, gate_none, gate_some, gateS_none, gateS_some, gateV_bool, gateV_undef, boolOf, evA, putT, refn, fpD, oBin, oUn, upsl, upl, up, ups, lk, dstsOf, resL, resA, packA, oLoadQ, oLoadKid, oStoreQ, oStoreTree, oBuildSliceQ, oBuildTree, oAppendQ, oAppendTree, isTr, isTrP, tkd, tkds, tkRows, ownOf, nodupB, deadL, treeOf, kidAbs, kidBlk, kidRows, TK.isCell, D.toL, oLoad, oStore, oAlloc, oBox, oBuild, oBuildSlice, oMake, oAppend, oIndexAddr, oFieldAddr, oField, oExtract, oNil, oSlice, oLen, oConvert, rowLoad, fillA, fillR, slB, dk, dks, dkRows, frz, loOf, hiOf, lenOf, rowsOf, nilV, lenV, putAt, views, viewsOk, CK.av, CK.ok, AV.cells, AV.one, Value.oneCell', Value.cells, pureAbs, nrm, nrm.nrmL, hpAt, sh, AV.ren, AV.ren.renL, Blk.ren, fpOf, footO, foot, blkIds, AV.ids, AV.ids.idsL, Op.operands, Call.operands, List.find?_cons, List.find?_nil, Nat.reduceBEq, beq_self_eq_true, List.map_cons, List.map_nil, List.getD_cons_zero, List.getD_cons_succ, List.getD_nil, List.set_cons_zero, List.set_cons_succ, List.length_cons, List.length_nil, List.replicate, List.cons_append, List.nil_append, List.append_nil, List.getElem?_cons_zero, List.getElem?_cons_succ, List.getElem?_toArray, List.getElem?_nil, List.take_zero, List.take_succ_cons, List.take_nil, List.drop_zero, List.drop_succ_cons, List.drop_nil, List.headD_cons, List.tail_cons, List.flatten_cons, List.flatten_nil, List.flatMap_cons, List.flatMap_nil, List.toList_toArray, Array.toList_append, Option.bind_some, Option.map_some, Option.map_none, Option.isSome_some, List.all_nil, List.all_cons, Bool.and_self, Bool.and_true, Bool.true_and, true_and, and_true, ↓reduceIte, List.size_toArray, Bool.false_eq_true, Bool.true_eq_false, false_implies, true_implies, Bool.not_true, Bool.not_false, and_self, implies_true, decide_true, decide_false, Nat.reduceAdd, Nat.reduceMul, Nat.reduceLT, Nat.reduceSub, Nat.reduceLeDiff, Nat.reduceEqDiff, eq_self, ne_eq, not_false_eq_true, false_and, and_false, reduceCtorEq, List.filter_nil, List.filter_cons, List.isEmpty_nil, List.isEmpty_cons, bne_self_eq_false, Nat.reduceBneDiff, Nat.lt_add_one, Nat.zero_lt_succ, List.append_assoc, Nat.zero_le, and_self_iff, Int.reduceToNat, List.any_nil, List.any_cons, List.filterMap_nil, List.filterMap_cons, List.contains_nil, List.contains_cons, Bool.or_false, Bool.false_or, Bool.or_true, Bool.true_or, Bool.false_and, Bool.and_false, decide_eq_true_eq, decide_eq_false_iff_not, beq_iff_eq, Int.toNat_natCast]
    refine ⟨⟨⟨_, rfl, by omega⟩, _, rfl, by omega⟩, ?_⟩
    by_cases hs1 : ok = true
    · have hok' := hok.symm.trans hs1
      simp only [rOk, Bool.and_eq_true, decide_eq_true_eq] at hok'
      obtain ⟨h1, h2, h4⟩ := hok'
      have e2 : inZ now 0 999980 = true := by unfold inZ; exact decide_eq_true h4
      have w20 : IntKind.i64.wrap (now + 20) = now + 20 := wrap_id (by omega) (by omega)
      have hs4 := (nOkB_k h1).2.2.1
      have hk4 := (nOkB_k h1).1
      rw [if_pos (by simp [h1]), if_pos (by simp [h2]), if_neg (by simp [e2])]
      clear e2 h2 h4 hok h1
      refine e_loop _ _ _ _ _ _ _ _ (fun k : Nat => [.any, .v (.int .i64 own), .any, .v (.int .i64 now), .ptr 0 0, .any, .ptr 1 0, .any, .ptr 2 0, .any, .own 5, .ptr 3 0, .v (.bool (qw == own || (ks.take k).any fun e => e.a == qa)), .v (.int .i64 (k : Int))] ++ List.replicate (Try.f5.ntmps - 14) .any) (fun k => [(0, .var 32 [.l 3 (kRows ks), .l 2 (hRows hs)]), (1, .var 37 [.v (.int .i64 qk), .v (.int .i64 ql), .v (.int .i64 qa), .v (.int .i64 qw)]), (2, .var 32 [.v (.slice none 0 0), .v (.slice none 0 0)]), (3, .var 32 [.own 4, .v (.slice none 0 0)]), (4, .sl 50 3 (kRows (kOut (ks.take k) qa))), (5, .sl 51 1 [])]) (fun k => k ≤ ks.length) (fun k => ks.length - k) 6 (fun k => by simp) ⟨0, [(1, some 16), (2, some 32), (3, some 320), (4, none), (5, some 64)], by omega, ?_, by simp [keepIds]⟩ fun k hk' => ?_
      · simp only [Try.f5, List.take_zero, List.any_nil, Bool.or_false, kOut, List.filter_nil, show kRows [] = [] from rfl]
        (refine ⟨?_, ?_, ?_⟩ <;> simp [fitT, fit1, fitH, fitB, trE, emptyB, rn, lk, AV.ren, AV.ren.renL, Blk.ren, blkIds, blkPids, AV.ids, AV.ids.idsL, AV.pids, AV.pids.pidsL, Blk.there])
        try rfl
      · have w2 : IntKind.i64.wrap ((k : Int) + 1) = ((k + 1 : Nat) : Int) := by rw [wrap_id] <;> omega
        by_cases h : k < ks.length
        · have hrow := kRows_get ks k h
          have hlt : ((k : Int) < (ks.length : Int)) = True := eq_true (by omega)
          have h0 : (0 ≤ (k : Int)) = True := eq_true (by omega)
          simp (maxSteps := 3000000) only [Try.f5, hears, kRows_len, hrow, hlt, h0, D.toI, D.toL, tY2, tY3, tY4, tY5, tY9, tY12, tY21, tY22, tY23, tY24, tY25, tY26, tY27, tY29, tY30, tY31, tY32, tY33, tY37, tY49, tY50, tY51, tY52, tY53, tY68, tY70, tY87, tY96, Try.underlying2, Try.underlying3, Try.underlying4, Try.underlying5, Try.underlying9, Try.underlying12, Try.underlying21, Try.underlying22, Try.underlying23, Try.underlying24, Try.underlying25, Try.underlying26, Try.underlying27, Try.underlying29, Try.underlying30, Try.underlying31, Try.underlying32, Try.underlying33, Try.underlying37, Try.underlying49, Try.underlying50, Try.underlying51, Try.underlying52, Try.underlying53, Try.underlying68, Try.underlying70, Try.underlying87, Try.underlying96, e_skip, e_label, e_ret, e_exit, e_seq, e_cond, e_block, e_region, seqK_normal, seqK_ret, seqK_exit, blkK_normal, blkK_ret, blkK_exit, condK_some, regK_true, regK_false, e_nil, e_cons, gateK_go, gateK_skip, gateK_ask, pickK_some, exK_some, x_pick, x_move, x_assign, x_alloc, x_box, x_build, x_buildSlice, x_load, x_store, x_binOp, x_unOp, x_convert, x_makeSlice, x_slice, x_fieldAddr, x_field, x_indexAddr, x_extract, x_nilCheck, x_call, x_len, x_append, x_min, oMin, x_copy, oCopy, eqAVs, callK_some, done_ret, done_normal, doneO_ret, doneO_normal, endsO_one, endsO_nil, endsO_more, ownAbs, frzAbs, leafs, leafs.leafsL, uniq, idxOf, bk, zipB, Blk.liveB, gate_none, gate_some, gateS_none, gateS_some, gateV_bool, gateV_undef, boolOf, evA, putT, refn, fpD, oBin, oUn, upsl, upl, up, ups, lk, dstsOf, resL, resA, packA, oLoadQ, oLoadKid, oStoreQ, oStoreTree, oBuildSliceQ, oBuildTree, oAppendQ, oAppendTree, isTr, isTrP, tkd, tkds, tkRows, ownOf, nodupB, deadL, treeOf, kidAbs, kidBlk, kidRows, TK.isCell, D.toL, oLoad, oStore, oAlloc, oBox, oBuild, oBuildSlice, oMake, oAppend, oIndexAddr, oFieldAddr, oField, oExtract, oNil, oSlice, oLen, oConvert, rowLoad, fillA, fillR, slB, dk, dks, dkRows, frz, loOf, hiOf, lenOf, rowsOf, nilV, lenV, putAt, views, viewsOk, CK.av, CK.ok, AV.cells, AV.one, Value.oneCell', Value.cells, pureAbs, nrm, nrm.nrmL, hpAt, sh, AV.ren, AV.ren.renL, Blk.ren, fpOf, footO, foot, blkIds, AV.ids, AV.ids.idsL, Op.operands, Call.operands, List.find?_cons, List.find?_nil, Nat.reduceBEq, beq_self_eq_true, List.map_cons, List.map_nil, List.getD_cons_zero, List.getD_cons_succ, List.getD_nil, List.set_cons_zero, List.set_cons_succ, List.length_cons, List.length_nil, List.replicate, List.cons_append, List.nil_append, List.append_nil, List.getElem?_cons_zero, List.getElem?_cons_succ, List.getElem?_toArray, List.getElem?_nil, List.take_zero, List.take_succ_cons, List.take_nil, List.drop_zero, List.drop_succ_cons, List.drop_nil, List.headD_cons, List.tail_cons, List.flatten_cons, List.flatten_nil, List.flatMap_cons, List.flatMap_nil, List.toList_toArray, Array.toList_append, Option.bind_some, Option.map_some, Option.map_none, Option.isSome_some, List.all_nil, List.all_cons, Bool.and_self, Bool.and_true, Bool.true_and, true_and, and_true, ↓reduceIte, List.size_toArray, Bool.false_eq_true, Bool.true_eq_false, false_implies, true_implies, Bool.not_true, Bool.not_false, and_self, implies_true, decide_true, decide_false, Nat.reduceAdd, Nat.reduceMul, Nat.reduceLT, Nat.reduceSub, Nat.reduceLeDiff, Nat.reduceEqDiff, eq_self, ne_eq, not_false_eq_true, false_and, and_false, reduceCtorEq, List.filter_nil, List.filter_cons, List.isEmpty_nil, List.isEmpty_cons, bne_self_eq_false, Nat.reduceBneDiff, Nat.lt_add_one, Nat.zero_lt_succ, List.append_assoc, Nat.zero_le, and_self_iff, Int.reduceToNat, List.any_nil, List.any_cons, List.filterMap_nil, List.filterMap_cons, List.contains_nil, List.contains_cons, Bool.or_false, Bool.false_or, Bool.or_true, Bool.true_or, Bool.false_and, Bool.and_false, decide_eq_true_eq, decide_eq_false_iff_not, beq_iff_eq, Int.toNat_natCast, loopK_normal, loopK_exit, loopK_ret, w2]
          by_cases he : ks[k].a = qa
          · rw [if_pos he]
            have e1 : kOut (ks.take (k + 1)) qa = kOut (ks.take k) qa := by rw [kOut, filter_take _ _ _ h, if_neg (by simp [he]), List.append_nil]; rfl
            have e2 : (ks.take (k + 1)).any (fun e => e.a == qa) = true := by rw [any_take _ _ _ h]; simp [he]
            refine ⟨by kernel_rfl, k + 1, [], by omega, by omega, ?_, by simp [keepIds]⟩
            simp only [e1, e2, Bool.or_true]
            clear e1 e2 hrow hlt h0 w2
            (refine ⟨?_, ?_, ?_⟩ <;> simp [fitT, fit1, fitH, fitB, trE, emptyB, rn, lk, AV.ren, AV.ren.renL, Blk.ren, blkIds, blkPids, AV.ids, AV.ids.idsL, AV.pids, AV.pids.pidsL, Blk.there])
          · rw [if_neg he]
            have hcl := filter_le (fun e : KE => e.a != qa) ks k
            have e1 : kRows (kOut (ks.take k) qa) ++ [[D.v (.int .i64 ks[k].a), D.v (.int .i64 ks[k].l), D.v (.int .i64 ks[k].u)]] = kRows (kOut (ks.take (k + 1)) qa) := by
              rw [kOut, kOut, filter_take _ _ _ h, if_pos (by simp [he]), ← kRows_app]; rfl
            have e2 : (ks.take (k + 1)).any (fun e => e.a == qa) = (ks.take k).any (fun e => e.a == qa) := by rw [any_take _ _ _ h]; simp [he]
            have hlen : (kOut (ks.take k) qa).length ≤ 1048576 := by unfold kOut; omega
            rw [e1]
            refine ⟨by kernel_rfl, ⟨by omega, by omega, by simp⟩, by kernel_rfl, k + 1, [(4, some 358)], by omega, by omega, ?_, by simp [keepIds]⟩
            rw [e2]
            clear e1 e2 hrow hlt h0 w2 hcl hlen
            (refine ⟨?_, ?_, ?_⟩ <;> simp [fitT, fit1, fitH, fitB, trE, emptyB, rn, lk, AV.ren, AV.ren.renL, Blk.ren, blkIds, blkPids, AV.ids, AV.ids.idsL, AV.pids, AV.pids.pidsL, Blk.there])
        · have hlt : ((k : Int) < (ks.length : Int)) = False := eq_false (by omega)
          obtain rfl : k = ks.length := by omega
          rw [List.take_length]
          simp (maxSteps := 3000000) only [Try.f5, hears, kRows_len, hlt, tY2, tY3, tY4, tY5, tY9, tY12, tY21, tY22, tY23, tY24, tY25, tY26, tY27, tY29, tY30, tY31, tY32, tY33, tY37, tY49, tY50, tY51, tY52, tY53, tY68, tY70, tY87, tY96, Try.underlying2, Try.underlying3, Try.underlying4, Try.underlying5, Try.underlying9, Try.underlying12, Try.underlying21, Try.underlying22, Try.underlying23, Try.underlying24, Try.underlying25, Try.underlying26, Try.underlying27, Try.underlying29, Try.underlying30, Try.underlying31, Try.underlying32, Try.underlying33, Try.underlying37, Try.underlying49, Try.underlying50, Try.underlying51, Try.underlying52, Try.underlying53, Try.underlying68, Try.underlying70, Try.underlying87, Try.underlying96, e_skip, e_label, e_ret, e_exit, e_seq, e_cond, e_block, e_region, seqK_normal, seqK_ret, seqK_exit, blkK_normal, blkK_ret, blkK_exit, condK_some, regK_true, regK_false, e_nil, e_cons, gateK_go, gateK_skip, gateK_ask, pickK_some, exK_some, x_pick, x_move, x_assign, x_alloc, x_box, x_build, x_buildSlice, x_load, x_store, x_binOp, x_unOp, x_convert, x_makeSlice, x_slice, x_fieldAddr, x_field, x_indexAddr, x_extract, x_nilCheck, x_call, x_len, x_append, x_min, oMin, x_copy, oCopy, eqAVs, callK_some, done_ret, done_normal, doneO_ret, doneO_normal, endsO_one, endsO_nil, endsO_more, ownAbs, frzAbs, leafs, leafs.leafsL, uniq, idxOf, bk, zipB, Blk.liveB, gate_none, gate_some, gateS_none, gateS_some, gateV_bool, gateV_undef, boolOf, evA, putT, refn, fpD, oBin, oUn, upsl, upl, up, ups, lk, dstsOf, resL, resA, packA, oLoadQ, oLoadKid, oStoreQ, oStoreTree, oBuildSliceQ, oBuildTree, oAppendQ, oAppendTree, isTr, isTrP, tkd, tkds, tkRows, ownOf, nodupB, deadL, treeOf, kidAbs, kidBlk, kidRows, TK.isCell, D.toL, oLoad, oStore, oAlloc, oBox, oBuild, oBuildSlice, oMake, oAppend, oIndexAddr, oFieldAddr, oField, oExtract, oNil, oSlice, oLen, oConvert, rowLoad, fillA, fillR, slB, dk, dks, dkRows, frz, loOf, hiOf, lenOf, rowsOf, nilV, lenV, putAt, views, viewsOk, CK.av, CK.ok, AV.cells, AV.one, Value.oneCell', Value.cells, pureAbs, nrm, nrm.nrmL, hpAt, sh, AV.ren, AV.ren.renL, Blk.ren, fpOf, footO, foot, blkIds, AV.ids, AV.ids.idsL, Op.operands, Call.operands, List.find?_cons, List.find?_nil, Nat.reduceBEq, beq_self_eq_true, List.map_cons, List.map_nil, List.getD_cons_zero, List.getD_cons_succ, List.getD_nil, List.set_cons_zero, List.set_cons_succ, List.length_cons, List.length_nil, List.replicate, List.cons_append, List.nil_append, List.append_nil, List.getElem?_cons_zero, List.getElem?_cons_succ, List.getElem?_toArray, List.getElem?_nil, List.take_zero, List.take_succ_cons, List.take_nil, List.drop_zero, List.drop_succ_cons, List.drop_nil, List.headD_cons, List.tail_cons, List.flatten_cons, List.flatten_nil, List.flatMap_cons, List.flatMap_nil, List.toList_toArray, Array.toList_append, Option.bind_some, Option.map_some, Option.map_none, Option.isSome_some, List.all_nil, List.all_cons, Bool.and_self, Bool.and_true, Bool.true_and, true_and, and_true, ↓reduceIte, List.size_toArray, Bool.false_eq_true, Bool.true_eq_false, false_implies, true_implies, Bool.not_true, Bool.not_false, and_self, implies_true, decide_true, decide_false, Nat.reduceAdd, Nat.reduceMul, Nat.reduceLT, Nat.reduceSub, Nat.reduceLeDiff, Nat.reduceEqDiff, eq_self, ne_eq, not_false_eq_true, false_and, and_false, reduceCtorEq, List.filter_nil, List.filter_cons, List.isEmpty_nil, List.isEmpty_cons, bne_self_eq_false, Nat.reduceBneDiff, Nat.lt_add_one, Nat.zero_lt_succ, List.append_assoc, Nat.zero_le, and_self_iff, Int.reduceToNat, List.any_nil, List.any_cons, List.filterMap_nil, List.filterMap_cons, List.contains_nil, List.contains_cons, Bool.or_false, Bool.false_or, Bool.or_true, Bool.true_or, Bool.false_and, Bool.and_false, decide_eq_true_eq, decide_eq_false_iff_not, beq_iff_eq, Int.toNat_natCast, loopK_normal, loopK_exit, loopK_ret, w2]
          refine e_loop _ _ _ _ _ _ _ _ (fun j : Nat => [.any, .v (.int .i64 own), .any, .v (.int .i64 now), .ptr 0 0, .any, .ptr 1 0, .any, .ptr 2 0, .any, .own 5, .ptr 3 0, .v (.bool ((qw == own || ks.any fun e => e.a == qa) || (hs.take j).any fun h => h.a == qa)), .any, .v (.int .i64 (j : Int))] ++ List.replicate (Try.f5.ntmps - 15) .any) (fun j => [(0, .var 32 [.l 3 (kRows ks), .l 2 (hRows hs)]), (1, .var 37 [.v (.int .i64 qk), .v (.int .i64 ql), .v (.int .i64 qa), .v (.int .i64 qw)]), (2, .var 32 [.v (.slice none 0 0), .v (.slice none 0 0)]), (3, .var 32 [.own 4, .own 6]), (4, .sl 50 3 (kRows (kOut ks qa))), (5, .sl 51 1 (sRows (sentOf (hs.take j) qa))), (6, .sl 53 2 (hRows (hOut (hs.take j) qa)))]) (fun j => j ≤ hs.length) (fun j => hs.length - j) 7 (fun j => by simp) ⟨0, [(6, none)], by omega, ?_, by simp [keepIds]⟩ fun j hj' => ?_
          · simp only [Try.f5, List.take_zero, List.any_nil, Bool.or_false, hOut, sentOf, List.filter_nil, List.map_nil, show hRows [] = [] from rfl, show sRows [] = [] from rfl]
            (refine ⟨?_, ?_, ?_⟩ <;> simp [fitT, fit1, fitH, fitB, trE, emptyB, rn, lk, AV.ren, AV.ren.renL, Blk.ren, blkIds, blkPids, AV.ids, AV.ids.idsL, AV.pids, AV.pids.pidsL, Blk.there])
            try rfl
          · clear hk' h hlt
            have w2 : IntKind.i64.wrap ((j : Int) + 1) = ((j + 1 : Nat) : Int) := by rw [wrap_id] <;> omega
            by_cases h : j < hs.length
            · have hrow := hRows_get hs j h
              have hlt : ((j : Int) < (hs.length : Int)) = True := eq_true (by omega)
              have h0 : (0 ≤ (j : Int)) = True := eq_true (by omega)
              simp (maxSteps := 3000000) only [Try.f5, hears, hRows_len, sRows_len, hrow, hlt, h0, D.toI, D.toL, rowsOf_len, tY2, tY3, tY4, tY5, tY9, tY12, tY21, tY22, tY23, tY24, tY25, tY26, tY27, tY29, tY30, tY31, tY32, tY33, tY37, tY49, tY50, tY51, tY52, tY53, tY68, tY70, tY87, tY96, Try.underlying2, Try.underlying3, Try.underlying4, Try.underlying5, Try.underlying9, Try.underlying12, Try.underlying21, Try.underlying22, Try.underlying23, Try.underlying24, Try.underlying25, Try.underlying26, Try.underlying27, Try.underlying29, Try.underlying30, Try.underlying31, Try.underlying32, Try.underlying33, Try.underlying37, Try.underlying49, Try.underlying50, Try.underlying51, Try.underlying52, Try.underlying53, Try.underlying68, Try.underlying70, Try.underlying87, Try.underlying96, e_skip, e_label, e_ret, e_exit, e_seq, e_cond, e_block, e_region, seqK_normal, seqK_ret, seqK_exit, blkK_normal, blkK_ret, blkK_exit, condK_some, regK_true, regK_false, e_nil, e_cons, gateK_go, gateK_skip, gateK_ask, pickK_some, exK_some, x_pick, x_move, x_assign, x_alloc, x_box, x_build, x_buildSlice, x_load, x_store, x_binOp, x_unOp, x_convert, x_makeSlice, x_slice, x_fieldAddr, x_field, x_indexAddr, x_extract, x_nilCheck, x_call, x_len, x_append, x_min, oMin, x_copy, oCopy, eqAVs, callK_some, done_ret, done_normal, doneO_ret, doneO_normal, endsO_one, endsO_nil, endsO_more, ownAbs, frzAbs, leafs, leafs.leafsL, uniq, idxOf, bk, zipB, Blk.liveB, gate_none, gate_some, gateS_none, gateS_some, gateV_bool, gateV_undef, boolOf, evA, putT, refn, fpD, oBin, oUn, upsl, upl, up, ups, lk, dstsOf, resL, resA, packA, oLoadQ, oLoadKid, oStoreQ, oStoreTree, oBuildSliceQ, oBuildTree, oAppendQ, oAppendTree, isTr, isTrP, tkd, tkds, tkRows, ownOf, nodupB, deadL, treeOf, kidAbs, kidBlk, kidRows, TK.isCell, D.toL, oLoad, oStore, oAlloc, oBox, oBuild, oBuildSlice, oMake, oAppend, oIndexAddr, oFieldAddr, oField, oExtract, oNil, oSlice, oLen, oConvert, rowLoad, fillA, fillR, slB, dk, dks, dkRows, frz, loOf, hiOf, lenOf, rowsOf, nilV, lenV, putAt, views, viewsOk, CK.av, CK.ok, AV.cells, AV.one, Value.oneCell', Value.cells, pureAbs, nrm, nrm.nrmL, hpAt, sh, AV.ren, AV.ren.renL, Blk.ren, fpOf, footO, foot, blkIds, AV.ids, AV.ids.idsL, Op.operands, Call.operands, List.find?_cons, List.find?_nil, Nat.reduceBEq, beq_self_eq_true, List.map_cons, List.map_nil, List.getD_cons_zero, List.getD_cons_succ, List.getD_nil, List.set_cons_zero, List.set_cons_succ, List.length_cons, List.length_nil, List.replicate, List.cons_append, List.nil_append, List.append_nil, List.getElem?_cons_zero, List.getElem?_cons_succ, List.getElem?_toArray, List.getElem?_nil, List.take_zero, List.take_succ_cons, List.take_nil, List.drop_zero, List.drop_succ_cons, List.drop_nil, List.headD_cons, List.tail_cons, List.flatten_cons, List.flatten_nil, List.flatMap_cons, List.flatMap_nil, List.toList_toArray, Array.toList_append, Option.bind_some, Option.map_some, Option.map_none, Option.isSome_some, List.all_nil, List.all_cons, Bool.and_self, Bool.and_true, Bool.true_and, true_and, and_true, ↓reduceIte, List.size_toArray, Bool.false_eq_true, Bool.true_eq_false, false_implies, true_implies, Bool.not_true, Bool.not_false, and_self, implies_true, decide_true, decide_false, Nat.reduceAdd, Nat.reduceMul, Nat.reduceLT, Nat.reduceSub, Nat.reduceLeDiff, Nat.reduceEqDiff, eq_self, ne_eq, not_false_eq_true, false_and, and_false, reduceCtorEq, List.filter_nil, List.filter_cons, List.isEmpty_nil, List.isEmpty_cons, bne_self_eq_false, Nat.reduceBneDiff, Nat.lt_add_one, Nat.zero_lt_succ, List.append_assoc, Nat.zero_le, and_self_iff, Int.reduceToNat, List.any_nil, List.any_cons, List.filterMap_nil, List.filterMap_cons, List.contains_nil, List.contains_cons, Bool.or_false, Bool.false_or, Bool.or_true, Bool.true_or, Bool.false_and, Bool.and_false, decide_eq_true_eq, decide_eq_false_iff_not, beq_iff_eq, Int.toNat_natCast, loopK_normal, loopK_exit, loopK_ret, w2]
              have hdj := hd hs[j] (List.getElem_mem h)
              by_cases he : hs[j].a = qa
              · rw [if_pos he]
                have e1 : hOut (hs.take (j + 1)) qa = hOut (hs.take j) qa := by rw [hOut, filter_take _ _ _ h, if_neg (by simp [he]), List.append_nil]; rfl
                have e2 : (hs.take (j + 1)).any (fun h => h.a == qa) = true := by rw [any_take _ _ _ h]; simp [he]
                have e3 : sRows (sentOf (hs.take j) qa) ++ [[D.l 1 (rowsOfBytes hs[j].d)]] = sRows (sentOf (hs.take (j + 1)) qa) := by
                  rw [sentOf, sentOf, filter_take _ _ _ h, if_pos (by simp [he]), List.map_append, ← sRows_app]; rfl
                have hlen : (sentOf (hs.take j) qa).length ≤ 1048576 := by have := filter_le (fun h : HE => h.a == qa) hs j; unfold sentOf; rw [List.length_map]; omega
                rw [e3]
                refine ⟨by kernel_rfl, ⟨by omega, by omega, rowsOf_w _⟩, ⟨by omega, by omega, by simp⟩, j + 1, [(5, some 407)], by omega, by omega, ?_, by simp [keepIds]⟩
                simp only [e1, e2, Bool.or_true]
                clear e1 e2 e3 hrow hlt h0 w2 hlen
                (refine ⟨?_, ?_, ?_⟩ <;> simp [fitT, fit1, fitH, fitB, trE, emptyB, rn, lk, AV.ren, AV.ren.renL, Blk.ren, blkIds, blkPids, AV.ids, AV.ids.idsL, AV.pids, AV.pids.pidsL, Blk.there])
              · rw [if_neg he]
                have e1 : hRows (hOut (hs.take j) qa) ++ [[D.v (.int .i64 hs[j].a), D.l 1 (rowsOfBytes hs[j].d)]] = hRows (hOut (hs.take (j + 1)) qa) := by
                  rw [hOut, hOut, filter_take _ _ _ h, if_pos (by simp [he]), ← hRows_app]; rfl
                have e2 : (hs.take (j + 1)).any (fun h => h.a == qa) = (hs.take j).any (fun h => h.a == qa) := by rw [any_take _ _ _ h]; simp [he]
                have e3 : sentOf (hs.take (j + 1)) qa = sentOf (hs.take j) qa := by rw [sentOf, filter_take _ _ _ h, if_neg (by simp [he]), List.append_nil]; rfl
                have hlen : (hOut (hs.take j) qa).length ≤ 1048576 := by have := filter_le (fun h : HE => h.a != qa) hs j; unfold hOut; omega
                rw [e1]
                refine ⟨by kernel_rfl, ⟨by omega, by omega, rowsOf_w _⟩, ⟨by omega, by omega, by simp⟩, by kernel_rfl, j + 1, [(6, some 519)], by omega, by omega, ?_, by simp [keepIds]⟩
                rw [e2, e3]
                clear e1 e2 e3 hrow hlt h0 w2 hlen
                (refine ⟨?_, ?_, ?_⟩ <;> simp [fitT, fit1, fitH, fitB, trE, emptyB, rn, lk, AV.ren, AV.ren.renL, Blk.ren, blkIds, blkPids, AV.ids, AV.ids.idsL, AV.pids, AV.pids.pidsL, Blk.there])
            · have hlt : ((j : Int) < (hs.length : Int)) = False := eq_false (by omega)
              obtain rfl : j = hs.length := by omega
              rw [List.take_length]
              simp (maxSteps := 3000000) only [Try.f5, hears, g_copyM, kRows_len, hRows_len, hlt, tY2, tY3, tY4, tY5, tY9, tY12, tY21, tY22, tY23, tY24, tY25, tY26, tY27, tY29, tY30, tY31, tY32, tY33, tY37, tY49, tY50, tY51, tY52, tY53, tY68, tY70, tY87, tY96, Try.underlying2, Try.underlying3, Try.underlying4, Try.underlying5, Try.underlying9, Try.underlying12, Try.underlying21, Try.underlying22, Try.underlying23, Try.underlying24, Try.underlying25, Try.underlying26, Try.underlying27, Try.underlying29, Try.underlying30, Try.underlying31, Try.underlying32, Try.underlying33, Try.underlying37, Try.underlying49, Try.underlying50, Try.underlying51, Try.underlying52, Try.underlying53, Try.underlying68, Try.underlying70, Try.underlying87, Try.underlying96, e_skip, e_label, e_ret, e_exit, e_seq, e_cond, e_block, e_region, seqK_normal, seqK_ret, seqK_exit, blkK_normal, blkK_ret, blkK_exit, condK_some, regK_true, regK_false, e_nil, e_cons, gateK_go, gateK_skip, gateK_ask, pickK_some, exK_some, x_pick, x_move, x_assign, x_alloc, x_box, x_build, x_buildSlice, x_load, x_store, x_binOp, x_unOp, x_convert, x_makeSlice, x_slice, x_fieldAddr, x_field, x_indexAddr, x_extract, x_nilCheck, x_call, x_len, x_append, x_min, oMin, x_copy, oCopy, eqAVs, callK_some, done_ret, done_normal, doneO_ret, doneO_normal, endsO_one, endsO_nil, endsO_more, ownAbs, frzAbs, leafs, leafs.leafsL, uniq, idxOf, bk, zipB, Blk.liveB, gate_none, gate_some, gateS_none, gateS_some, gateV_bool, gateV_undef, boolOf, evA, putT, refn, fpD, oBin, oUn, upsl, upl, up, ups, lk, dstsOf, resL, resA, packA, oLoadQ, oLoadKid, oStoreQ, oStoreTree, oBuildSliceQ, oBuildTree, oAppendQ, oAppendTree, isTr, isTrP, tkd, tkds, tkRows, ownOf, nodupB, deadL, treeOf, kidAbs, kidBlk, kidRows, TK.isCell, D.toL, oLoad, oStore, oAlloc, oBox, oBuild, oBuildSlice, oMake, oAppend, oIndexAddr, oFieldAddr, oField, oExtract, oNil, oSlice, oLen, oConvert, rowLoad, fillA, fillR, slB, dk, dks, dkRows, frz, loOf, hiOf, lenOf, rowsOf, nilV, lenV, putAt, views, viewsOk, CK.av, CK.ok, AV.cells, AV.one, Value.oneCell', Value.cells, pureAbs, nrm, nrm.nrmL, hpAt, sh, AV.ren, AV.ren.renL, Blk.ren, fpOf, footO, foot, blkIds, AV.ids, AV.ids.idsL, Op.operands, Call.operands, List.find?_cons, List.find?_nil, Nat.reduceBEq, beq_self_eq_true, List.map_cons, List.map_nil, List.getD_cons_zero, List.getD_cons_succ, List.getD_nil, List.set_cons_zero, List.set_cons_succ, List.length_cons, List.length_nil, List.replicate, List.cons_append, List.nil_append, List.append_nil, List.getElem?_cons_zero, List.getElem?_cons_succ, List.getElem?_toArray, List.getElem?_nil, List.take_zero, List.take_succ_cons, List.take_nil, List.drop_zero, List.drop_succ_cons, List.drop_nil, List.headD_cons, List.tail_cons, List.flatten_cons, List.flatten_nil, List.flatMap_cons, List.flatMap_nil, List.toList_toArray, Array.toList_append, Option.bind_some, Option.map_some, Option.map_none, Option.isSome_some, List.all_nil, List.all_cons, Bool.and_self, Bool.and_true, Bool.true_and, true_and, and_true, ↓reduceIte, List.size_toArray, Bool.false_eq_true, Bool.true_eq_false, false_implies, true_implies, Bool.not_true, Bool.not_false, and_self, implies_true, decide_true, decide_false, Nat.reduceAdd, Nat.reduceMul, Nat.reduceLT, Nat.reduceSub, Nat.reduceLeDiff, Nat.reduceEqDiff, eq_self, ne_eq, not_false_eq_true, false_and, and_false, reduceCtorEq, List.filter_nil, List.filter_cons, List.isEmpty_nil, List.isEmpty_cons, bne_self_eq_false, Nat.reduceBneDiff, Nat.lt_add_one, Nat.zero_lt_succ, List.append_assoc, Nat.zero_le, and_self_iff, Int.reduceToNat, List.any_nil, List.any_cons, List.filterMap_nil, List.filterMap_cons, List.contains_nil, List.contains_cons, Bool.or_false, Bool.false_or, Bool.or_true, Bool.true_or, Bool.false_and, Bool.and_false, decide_eq_true_eq, decide_eq_false_iff_not, beq_iff_eq, Int.toNat_natCast, loopK_normal, loopK_exit, loopK_ret, w20]
              have hlk : (kOut ks qa).length ≤ 4 := Nat.le_trans (List.length_filter_le _ _) hk4
              have hle : (kRows (kOut ks qa) ++ [[D.v (.int .i64 qa), D.v (.int .i64 ql), D.v (.int .i64 (now + 20))]]).length = (kOut ks qa).length + 1 := by rw [List.length_append, kRows_len]; rfl
              have he : kRows (kOut ks qa) ++ [[D.v (.int .i64 qa), D.v (.int .i64 ql), D.v (.int .i64 (now + 20))]] = kRows (kOut ks qa ++ [⟨qa, ql, now + 20⟩]) := by rw [← kRows_app]; rfl
              simp only [hearR, hearB, hs1, ↓reduceIte]
              have hw : want = ((qw == own || ks.any fun e => e.a == qa) || hs.any fun h => h.a == qa) := hwant
              rw [← hw]
              clear hw hwant w20
              by_cases hwt : want = true
              · rw [if_neg (by simp [hwt])]
                simp only [hwt, ↓reduceIte]
                refine ⟨⟨by omega, by omega, by simp⟩, ?_⟩
                rw [hle, he]
                by_cases h5 : (kOut ks qa).length < 4
                · rw [if_neg (by omega), if_pos h5]
                  simp only [hpAt]
                  exact ⟨[(0, some 279), (1, some 6), (2, some 5)], by (refine ⟨?_, ?_, ?_⟩ <;> simp [fitT, fit1, fitH, fitB, trE, emptyB, rn, lk, AV.ren, AV.ren.renL, Blk.ren, blkIds, blkPids, AV.ids, AV.ids.idsL, AV.pids, AV.pids.pidsL, Blk.there]), by simp [keepIds, rn, List.range, List.range.loop]⟩
                · have h6 : (kOut ks qa).length = 4 := by omega
                  rw [if_pos (by omega), if_neg h5, h6]
                  simp only [hpAt]
                  exact ⟨by omega, [(0, some 279), (1, some 6), (2, some 5)], by (refine ⟨?_, ?_, ?_⟩ <;> simp [fitT, fit1, fitH, fitB, trE, emptyB, rn, lk, AV.ren, AV.ren.renL, Blk.ren, blkIds, blkPids, AV.ids, AV.ids.idsL, AV.pids, AV.pids.pidsL, Blk.there]), by simp [keepIds, rn, List.range, List.range.loop]⟩
              · have hwt : want = false := by simpa using hwt
                rw [if_pos (by simp [hwt])]
                simp only [hwt, ↓reduceIte, Bool.false_eq_true, hpAt]
                refine ⟨⟨⟨_, rfl, hk⟩, _, rfl, hh, hd⟩, [(0, some 135), (1, some 136), (2, some 151)], by (refine ⟨?_, ?_, ?_⟩ <;> simp [fitT, fit1, fitH, fitB, trE, emptyB, rn, lk, AV.ren, AV.ren.renL, Blk.ren, blkIds, blkPids, AV.ids, AV.ids.idsL, AV.pids, AV.pids.pidsL, Blk.there]), by simp [keepIds, rn, List.range, List.range.loop]⟩
    · have hs2 : ok = false := by simpa using hs1
      simp only [hearR, hearB, hs2, ↓reduceIte, Bool.false_eq_true, hpAt]
      by_cases h1 : nOkB ks hs = true
      · rw [if_pos (by simp [h1])]
        by_cases h2 : qB qk ql qa qw = true
        · rw [if_pos (by simp [h2])]
          by_cases h4 : inZ now 0 999980 = true
          · exfalso
            refine hs1 (hok.trans ?_)
            simp only [inZ, decide_eq_true_eq] at h4
            simp only [rOk, h1, h2, Bool.true_and, decide_eq_true_eq]
            omega
          · rw [if_pos (by simp [h4])]
            exact ⟨[(0, some 64)], by (refine ⟨?_, ?_, ?_⟩ <;> simp [fitT, fit1, fitH, fitB, trE, emptyB, rn, lk, AV.ren, AV.ren.renL, Blk.ren, blkIds, blkPids, AV.ids, AV.ids.idsL, AV.pids, AV.pids.pidsL, Blk.there]), by simp [keepIds, rn, List.range, List.range.loop]⟩
        · rw [if_neg (by simp [h2])]
          exact ⟨[(0, some 64)], by (refine ⟨?_, ?_, ?_⟩ <;> simp [fitT, fit1, fitH, fitB, trE, emptyB, rn, lk, AV.ren, AV.ren.renL, Blk.ren, blkIds, blkPids, AV.ids, AV.ids.idsL, AV.pids, AV.pids.pidsL, Blk.there]), by simp [keepIds, rn, List.range, List.range.loop]⟩
      · rw [if_neg (by simp [h1])]
        exact ⟨[(0, some 64)], by (refine ⟨?_, ?_, ?_⟩ <;> simp [fitT, fit1, fitH, fitB, trE, emptyB, rn, lk, AV.ren, AV.ren.renL, Blk.ren, blkIds, blkPids, AV.ids, AV.ids.idsL, AV.pids, AV.pids.pidsL, Blk.there]), by simp [keepIds, rn, List.range, List.range.loop]⟩
  · cases hg
end Go.Proofs.Ytheikjkfffepnaa
