import Derived.Test.YtfdgdffljaccdaaTb
import Derived.Test.YtfdgdffljaccdaaSm
namespace Go.Proofs.Ytfdgdffljaccdaa
open Go.RowKit
set_option linter.unusedSimpArgs false

/-! a query is drawn -/
structure QueryV where
  k : Int
  l : Int
  a : Int
  w : Int
  p : Int
def queryV (xs : List UInt8) (p n : Int) : QueryV :=
  if (decide (0 < n) && pickV xs (p + 1 + 1 + 1 + 1) n == n - 1) = true then
    if pickV xs (p + 1 + 1 + 1 + 1 + oneIf n) 3 = 0 then ⟨pickV xs (p + 1 + 1 + 1 + 1 + oneIf n + 1) 5, pickV xs (p + 1) 4, pickV xs (p + 1 + 1) 6, pickV xs (p + 1 + 1 + 1) 6, p + 1 + 1 + 1 + 1 + oneIf n + 1 + 1⟩
    else if pickV xs (p + 1 + 1 + 1 + 1 + oneIf n) 3 = 1 then ⟨IntKind.i64.wrap (1 + pickV xs p 2), 255, pickV xs (p + 1 + 1) 6, pickV xs (p + 1 + 1 + 1) 6, p + 1 + 1 + 1 + 1 + oneIf n + 1⟩
    else ⟨IntKind.i64.wrap (1 + pickV xs p 2), pickV xs (p + 1) 4, IntKind.i64.wrap (65536 - IntKind.i64.wrap (pickV xs (p + 1 + 1 + 1 + 1 + oneIf n + 1) 2 * 70000)), pickV xs (p + 1 + 1 + 1) 6, p + 1 + 1 + 1 + 1 + oneIf n + 1 + 1⟩
  else ⟨IntKind.i64.wrap (1 + pickV xs p 2), pickV xs (p + 1) 4, pickV xs (p + 1 + 1) 6, pickV xs (p + 1 + 1 + 1) 6, p + 1 + 1 + 1 + 1 + oneIf n⟩
theorem queryV_p (xs : List UInt8) (p n : Int) : p ≤ (queryV xs p n).p ∧ (queryV xs p n).p < p + 10 := by
  have := oneIf_le n
  unfold queryV
  split
  · split
    · dsimp only; omega
    · split <;> (dsimp only; omega)
  · dsimp only; omega
def g_query : OC := fun args B0 => match args, B0 with
  | [.ptr r o, .v (.int .i64 n)], [.var T [.l 1 rows, .v (.int .i64 p)]] => some (T = 96 ∧ r = 0 ∧ o = 0 ∧ (∃ xs, rows = rowsOfBytes xs ∧ xs.length ≤ 2000) ∧ 0 ≤ p ∧ p < 100000000000 ∧ 0 ≤ n ∧ n ≤ 1000000,
      .agg [.v (.int .i64 (queryV (bytesOfRows rows) p n).k), .v (.int .i64 (queryV (bytesOfRows rows) p n).l), .v (.int .i64 (queryV (bytesOfRows rows) p n).a), .v (.int .i64 (queryV (bytesOfRows rows) p n).w)], [.var T [.l 1 rows, .v (.int .i64 (queryV (bytesOfRows rows) p n).p)]], [])
  | _, _ => none
set_option maxRecDepth 100000 in
theorem query_ok : OwnOk Try.prog 56 g_query := by
  refine OwnOk.of_vc (G := reads) reads_ok mixed Try.func56 (by kernel_rfl) rfl ?_
  intro args B0 cnd r B1 bs hg hc hlive
  unfold g_query at hg
  split at hg
  · rename_i r o n T rows p
    cases hg
    obtain ⟨rfl, rfl, rfl, ⟨xs, rfl, hl⟩, hp0, hp1, hn0, hn1⟩ := hc
    rw [bytesOf_rows]
    refine ⟨⟨by simp [likeBs, likeB], by simp [Blk.liveB, blkIds, AV.ids.idsL, AV.ids], by simp [AV.ids, AV.ids.idsL]⟩, _, rfl, fun w Z s vs h => h, ?_⟩
    clear hlive
    have hx : (∃ ys, rowsOfBytes xs = rowsOfBytes ys ∧ ys.length ≤ 2000) = True := eq_true ⟨xs, rfl, hl⟩
    obtain ⟨e, he⟩ : ∃ e, e = oneIf n := ⟨_, rfl⟩
    have be := oneIf_le n
    rw [← he] at be
    have he' : (if 0 < n then (1 : Int) else 0) = e := he.symm
    simp (maxSteps := 3000000) only [Try.f56, reads, g_pick, g_odd, bytesOf_rows, tY2, tY3, tY4, tY5, tY9, tY12, tY21, tY22, tY23, tY24, tY25, tY26, tY39, tY40, tY42, tY43, tY46, tY52, tY53, tY54, tY55, tY64, tY73, tY74, tY95, tY96, tY100, tY102, tY113, tY122, Try.underlying2, Try.underlying3, Try.underlying4, Try.underlying5, Try.underlying9, Try.underlying12, Try.underlying21, Try.underlying22, Try.underlying23, Try.underlying24, Try.underlying25, Try.underlying26, Try.underlying39, Try.underlying40, Try.underlying42, Try.underlying43, Try.underlying46, Try.underlying52, Try.underlying53, Try.underlying54, Try.underlying55, Try.underlying64, Try.underlying73, Try.underlying74, Try.underlying95, Try.underlying96, Try.underlying100, Try.underlying102, Try.underlying113, Try.underlying122, e_skip, e_label, e_ret, e_exit, e_seq, e_cond, e_block, e_region, seqK_normal, seqK_ret, seqK_exit, blkK_normal, blkK_ret, blkK_exit, condK_some, regK_true, regK_false, e_nil, e_cons, gateK_go, gateK_skip, gateK_ask, pickK_some, exK_some, x_pick, x_move, x_assign, x_alloc, x_box, x_build, x_buildSlice, x_load, x_store, x_binOp, x_unOp, x_convert, x_makeSlice, x_slice, x_fieldAddr, x_field, x_indexAddr, x_extract, x_nilCheck, x_call, x_len, x_append, x_min, oMin, x_copy, oCopy, eqAVs, callK_some, done_ret, done_normal, doneO_ret, doneO_normal, endsO_one, endsO_nil, endsO_more, ownAbs, frzAbs, leafs, leafs.leafsL, uniq, idxOf, bk, zipB, Blk.liveB, gate_none, gate_some, gateS_none, gateS_some, gateV_bool, gateV_undef, boolOf, evA, putT, refn, fpD, oBin, oUn, upsl, upl, up, ups, lk, dstsOf, resL, resA, packA, oLoadQ, oLoadKid, oStoreQ, oStoreTree, oBuildSliceQ, oBuildTree, oAppendQ, oAppendTree, isTr, isTrP, tkd, tkds, tkRows, ownOf, nodupB, deadL, treeOf, kidAbs, kidBlk, kidRows, TK.isCell, D.toL, oLoad, oStore, oAlloc, oBox, oBuild, oBuildSlice, oMake, oAppend, oIndexAddr, oFieldAddr, oField, oExtract, oNil, oSlice, oLen, oConvert, rowLoad, fillA, fillR, slB, dk, dks, dkRows, frz, loOf, hiOf, lenOf, rowsOf, nilV, lenV, putAt, views, viewsOk, CK.av, CK.ok, AV.cells, AV.one, Value.oneCell', Value.cells, pureAbs, nrm, nrm.nrmL, hpAt, sh, AV.ren, AV.ren.renL, Blk.ren, fpOf, footO, foot, blkIds, AV.ids, AV.ids.idsL, Op.operands, Call.operands, List.find?_cons, List.find?_nil, Nat.reduceBEq, beq_self_eq_true, List.map_cons, List.map_nil, List.getD_cons_zero, List.getD_cons_succ, List.getD_nil, List.set_cons_zero, List.set_cons_succ, List.length_cons, List.length_nil, List.replicate, List.cons_append, List.nil_append, List.append_nil, List.getElem?_cons_zero, List.getElem?_cons_succ, List.getElem?_toArray, List.getElem?_nil, List.take_zero, List.take_succ_cons, List.take_nil, List.drop_zero, List.drop_succ_cons, List.drop_nil, List.headD_cons, List.tail_cons, List.flatten_cons, List.flatten_nil, List.flatMap_cons, List.flatMap_nil, List.toList_toArray, Array.toList_append, Option.bind_some, Option.map_some, Option.map_none, Option.isSome_some, List.all_nil, List.all_cons, Bool.and_self, Bool.and_true, Bool.true_and, true_and, and_true, ↓reduceIte, List.size_toArray, Bool.false_eq_true, Bool.true_eq_false, false_implies, true_implies, Bool.not_true, Bool.not_false, and_self, implies_true, decide_true, decide_false, Nat.reduceAdd, Nat.reduceMul, Nat.reduceLT, Nat.reduceSub, Nat.reduceLeDiff, Nat.reduceEqDiff, eq_self, ne_eq, not_false_eq_true, false_and, and_false, reduceCtorEq, List.filter_nil, List.filter_cons, List.isEmpty_nil, List.isEmpty_cons, bne_self_eq_false, Nat.reduceBneDiff, Nat.lt_add_one, Nat.zero_lt_succ, List.append_assoc, Nat.zero_le, and_self_iff, Int.reduceToNat, List.any_nil, List.any_cons, List.filterMap_nil, List.filterMap_cons, List.contains_nil, List.contains_cons, Bool.or_false, Bool.false_or, Bool.or_true, Bool.true_or, Bool.false_and, Bool.and_false, decide_eq_true_eq, decide_eq_false_iff_not, beq_iff_eq, Int.toNat_natCast, hx, he']
    simp only [queryV, ← he]
    refine ⟨by omega, by omega, by omega, by omega, by omega, ?_⟩
    by_cases ho : (decide (0 < n) && pickV xs (p + 1 + 1 + 1 + 1) n == n - 1) = true
    · simp only [ho, ↓reduceIte]
      refine ⟨by omega, ?_⟩
      by_cases h0 : pickV xs (p + 1 + 1 + 1 + 1 + e) 3 = 0
      · simp only [h0, ↓reduceIte]
        exact ⟨by omega, [], by (refine ⟨?_, ?_, ?_⟩ <;> simp [fitT, fit1, fitH, fitB, trE, emptyB, rn, lk, AV.ren, AV.ren.renL, Blk.ren, blkIds, blkPids, AV.ids, AV.ids.idsL, AV.pids, AV.pids.pidsL, Blk.there]), by simp [keepIds, rn, List.range, List.range.loop]⟩
      · simp only [h0, ↓reduceIte]
        by_cases h1 : pickV xs (p + 1 + 1 + 1 + 1 + e) 3 = 1
        · simp only [h1, ↓reduceIte]
          exact ⟨[], by (refine ⟨?_, ?_, ?_⟩ <;> simp [fitT, fit1, fitH, fitB, trE, emptyB, rn, lk, AV.ren, AV.ren.renL, Blk.ren, blkIds, blkPids, AV.ids, AV.ids.idsL, AV.pids, AV.pids.pidsL, Blk.there]), by simp [keepIds, rn, List.range, List.range.loop]⟩
        · simp only [h1, ↓reduceIte]
          exact ⟨by omega, [], by (refine ⟨?_, ?_, ?_⟩ <;> simp [fitT, fit1, fitH, fitB, trE, emptyB, rn, lk, AV.ren, AV.ren.renL, Blk.ren, blkIds, blkPids, AV.ids, AV.ids.idsL, AV.pids, AV.pids.pidsL, Blk.there]), by simp [keepIds, rn, List.range, List.range.loop]⟩
    · simp only [ho, ↓reduceIte, Bool.false_eq_true]
      exact ⟨[], by (refine ⟨?_, ?_, ?_⟩ <;> simp [fitT, fit1, fitH, fitB, trE, emptyB, rn, lk, AV.ren, AV.ren.renL, Blk.ren, blkIds, blkPids, AV.ids, AV.ids.idsL, AV.pids, AV.pids.pidsL, Blk.there]), by simp [keepIds, rn, List.range, List.range.loop]⟩
  · cases hg
def g_draw2q : PC := fun args => match args with
  | [.l _ rows] => some (∃ xs, rows = rowsOfBytes xs, .agg [.v (.int .i64 (queryV ((bytesOfRows rows).take 2000) 0 2).k), .v (.int .i64 (queryV ((bytesOfRows rows).take 2000) 0 2).l), .v (.int .i64 (queryV ((bytesOfRows rows).take 2000) 0 2).a), .v (.int .i64 (queryV ((bytesOfRows rows).take 2000) 0 2).w)], [])
  | _ => none
def g_draw6q : PC := fun args => match args with
  | [.l _ rows] => some (∃ xs, rows = rowsOfBytes xs, .agg [.v (.int .i64 (queryV ((bytesOfRows rows).take 2000) 0 6).k), .v (.int .i64 (queryV ((bytesOfRows rows).take 2000) 0 6).l), .v (.int .i64 (queryV ((bytesOfRows rows).take 2000) 0 6).a), .v (.int .i64 (queryV ((bytesOfRows rows).take 2000) 0 6).w)], [])
  | _ => none
def g_drawNT : PC := fun args => match args with
  | [.l _ rows] => some (∃ xs, rows = rowsOfBytes xs, .tup [.v (.int .i64 (IntKind.i64.wrap (pickV ((bytesOfRows rows).take 2000) 0 4 + IntKind.i64.wrap (IntKind.i64.wrap ((pickV ((bytesOfRows rows).take 2000) 1 15).tdiv 14) * 255)))), .v (.int .i64 (pickV ((bytesOfRows rows).take 2000) 2 6)), .agg [.v (.int .i64 (queryV ((bytesOfRows rows).take 2000) 3 9).k), .v (.int .i64 (queryV ((bytesOfRows rows).take 2000) 3 9).l), .v (.int .i64 (queryV ((bytesOfRows rows).take 2000) 3 9).a), .v (.int .i64 (queryV ((bytesOfRows rows).take 2000) 3 9).w)]], [])
  | _ => none
/-! the draw of bytes of a query, whole or not -/
def qqB (xs : List UInt8) : List UInt8 := qbV (queryV xs 0 0).k (queryV xs 0 0).l (queryV xs 0 0).a (queryV xs 0 0).w
def g_drawQueryFrom : OC := fun args B0 => match args, B0 with
  | [.l _ rows], [] => if pickV ((bytesOfRows rows).take 2000) 4 4 = 1 then
        some (∃ xs, rows = rowsOfBytes xs, .sub 0 0 (pickV ((bytesOfRows rows).take 2000) 5 6).toNat, [], [.sl 5 1 (rowsOfBytes (qqB ((bytesOfRows rows).take 2000)))])
      else some (∃ xs, rows = rowsOfBytes xs, .own 0, [], [.sl 5 1 (rowsOfBytes (
        if pickV ((bytesOfRows rows).take 2000) 4 4 = 0 then (qqB ((bytesOfRows rows).take 2000)).set (pickV ((bytesOfRows rows).take 2000) 5 6).toNat (toU8 (pickV ((bytesOfRows rows).take 2000) 6 256))
        else qqB ((bytesOfRows rows).take 2000)))])
  | _, _ => none
end Go.Proofs.Ytfdgdffljaccdaa
