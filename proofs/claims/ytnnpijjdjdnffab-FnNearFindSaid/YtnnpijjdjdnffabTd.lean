import Derived.Test.YtnnpijjdjdnffabTb
import Derived.Test.YtnnpijjdjdnffabSm
namespace Go.Proofs.Ytnnpijjdjdnffab
open Go.RowKit
set_option linter.unusedSimpArgs false

/-! a query is drawn -/
structure QueryV where
  k : Int
  l : Int
  a : Int
  w : Int
  p : Int
def queryV (xs : List UInt8) (p n : Int) : QueryV :=
  if (decide (0 < n) && pickV xs (p + 1 + 1 + 1 + 1) n == n - 1) = true then
    if pickV xs (p + 1 + 1 + 1 + 1 + oneIf n) 3 = 0 then ⟨pickV xs (p + 1 + 1 + 1 + 1 + oneIf n + 1) 5, pickV xs (p + 1) 4, pickV xs (p + 1 + 1) 6, pickV xs (p + 1 + 1 + 1) 6, p + 1 + 1 + 1 + 1 + oneIf n + 1 + 1⟩
    else if pickV xs (p + 1 + 1 + 1 + 1 + oneIf n) 3 = 1 then ⟨IntKind.i64.wrap (1 + pickV xs p 2), 255, pickV xs (p + 1 + 1) 6, pickV xs (p + 1 + 1 + 1) 6, p + 1 + 1 + 1 + 1 + oneIf n + 1⟩
    else ⟨IntKind.i64.wrap (1 + pickV xs p 2), pickV xs (p + 1) 4, IntKind.i64.wrap (65536 - IntKind.i64.wrap (pickV xs (p + 1 + 1 + 1 + 1 + oneIf n + 1) 2 * 70000)), pickV xs (p + 1 + 1 + 1) 6, p + 1 + 1 + 1 + 1 + oneIf n + 1 + 1⟩
  else ⟨IntKind.i64.wrap (1 + pickV xs p 2), pickV xs (p + 1) 4, pickV xs (p + 1 + 1) 6, pickV xs (p + 1 + 1 + 1) 6, p + 1 + 1 + 1 + 1 + oneIf n⟩
theorem queryV_p (xs : List UInt8) (p n : Int) : p ≤ (queryV xs p n).p ∧ (queryV xs p n).p < p + 10 := by
  have := oneIf_le n
  unfold queryV
  split
  · split
    · dsimp only; omega
    · split <;> (dsimp only; omega)
  · dsimp only; omega
def g_query : OC := fun args B0 => match args, B0 with
  | [.ptr r o, .v (.int .i64 n)], [.var T [.l 1 rows, .v (.int .i64 p)]] => some (T = 94 ∧ r = 0 ∧ o = 0 ∧ (∃ xs, rows = rowsOfBytes xs ∧ xs.length ≤ 2000) ∧ 0 ≤ p ∧ p < 100000000000 ∧ 0 ≤ n ∧ n ≤ 1000000,
      .agg [.v (.int .i64 (queryV (bytesOfRows rows) p n).k), .v (.int .i64 (queryV (bytesOfRows rows) p n).l), .v (.int .i64 (queryV (bytesOfRows rows) p n).a), .v (.int .i64 (queryV (bytesOfRows rows) p n).w)], [.var T [.l 1 rows, .v (.int .i64 (queryV (bytesOfRows rows) p n).p)]], [])
  | _, _ => none
set_option maxRecDepth 100000 in
theorem query_ok : OwnOk Try.prog 54 g_query := by
  refine OwnOk.of_vc (G := reads) reads_ok mixed Try.func54 (by kernel_rfl) rfl ?_
  intro args B0 cnd r B1 bs hg hc hlive
  unfold g_query at hg
  split at hg
  · rename_i r o n T rows p
    cases hg
    obtain ⟨rfl, rfl, rfl, ⟨xs, rfl, hl⟩, hp0, hp1, hn0, hn1⟩ := hc
    rw [bytesOf_rows]
    refine ⟨⟨by simp [likeBs, likeB], by simp [Blk.liveB, blkIds, AV.ids.idsL, AV.ids], by simp [AV.ids, AV.ids.idsL]⟩, _, rfl, fun w Z s vs h => h, ?_⟩
    clear hlive
    have hx : (∃ ys, rowsOfBytes xs = rowsOfBytes ys ∧ ys.length ≤ 2000) = True := eq_true ⟨xs, rfl, hl⟩
    obtain ⟨e, he⟩ : ∃ e, e = oneIf n := ⟨_, rfl⟩
    have be := oneIf_le n
    rw [← he] at be
    have he' : (if 0 < n then (1 : Int) else 0) = e := he.symm
    simp (maxSteps := 3000000) only [Try.f54, reads, g_pick, g_odd, bytesOf_rows, ty_sz2, ty_st2, ty_cell2, ty_ck2, ty_inf2, ty_sz3, ty_st3, ty_cell3, ty_ck3, ty_inf3, ty_sz4, ty_st4, ty_cell4, ty_ck4, ty_inf4, ty_sz5, ty_st5, ty_cell5, ty_ck5, ty_inf5, ty_sz9, ty_st9, ty_cell9, ty_ck9, ty_inf9, ty_sz12, ty_st12, ty_cell12, ty_ck12, ty_inf12, ty_sz21, ty_st21, ty_cell21, ty_ck21, ty_inf21, ty_sz22, ty_st22, ty_cell22, ty_ck22, ty_inf22, ty_sz23, ty_st23, ty_cell23, ty_ck23, ty_inf23, ty_sz24, ty_st24, ty_cell24, ty_ck24, ty_inf24, ty_sz25, ty_st25, ty_cell25, ty_ck25, ty_inf25, ty_eq25, ty_f25_0, ty_f25_1, ty_sz26, ty_st26, ty_cell26, ty_ck26, ty_inf26, ty_eq26, ty_f26_0, ty_f26_1, ty_sz39, ty_st39, ty_cell39, ty_ck39, ty_inf39, ty_eq39, ty_f39_0, ty_f39_1, ty_sz40, ty_st40, ty_cell40, ty_ck40, ty_inf40, ty_eq40, ty_f40_0, ty_f40_1, ty_sz42, ty_st42, ty_cell42, ty_ck42, ty_inf42, ty_eq42, ty_f42_0, ty_f42_1, ty_f42_2, ty_f42_3, ty_sz43, ty_st43, ty_cell43, ty_ck43, ty_inf43, ty_eq43, ty_f43_0, ty_f43_1, ty_f43_2, ty_f43_3, ty_sz46, ty_st46, ty_cell46, ty_ck46, ty_inf46, ty_sz52, ty_st52, ty_cell52, ty_ck52, ty_inf52, ty_sz53, ty_st53, ty_cell53, ty_ck53, ty_inf53, ty_sz54, ty_st54, ty_cell54, ty_ck54, ty_inf54, ty_eq54, ty_f54_0, ty_f54_1, ty_sz55, ty_st55, ty_cell55, ty_ck55, ty_inf55, ty_eq55, ty_f55_0, ty_f55_1, ty_sz62, ty_st62, ty_cell62, ty_ck62, ty_inf62, ty_eq62, ty_f62_0, ty_f62_1, ty_f62_2, ty_f62_3, ty_sz71, ty_st71, ty_cell71, ty_ck71, ty_inf71, ty_eq71, ty_f71_0, ty_f71_1, ty_f71_2, ty_sz72, ty_st72, ty_cell72, ty_ck72, ty_inf72, ty_eq72, ty_f72_0, ty_f72_1, ty_f72_2, ty_sz93, ty_st93, ty_cell93, ty_ck93, ty_inf93, ty_eq93, ty_f93_0, ty_f93_1, ty_sz94, ty_st94, ty_cell94, ty_ck94, ty_inf94, ty_eq94, ty_f94_0, ty_f94_1, ty_sz98, ty_st98, ty_cell98, ty_ck98, ty_inf98, ty_eq98, ty_f98_0, ty_f98_1, ty_sz100, ty_st100, ty_cell100, ty_ck100, ty_inf100, ty_eq100, ty_f100_0, ty_f100_1, ty_f100_2, ty_sz111, ty_st111, ty_cell111, ty_ck111, ty_inf111, ty_sz120, ty_st120, ty_cell120, ty_ck120, ty_inf120, Try.underlying2, Try.underlying3, Try.underlying4, Try.underlying5, Try.underlying9, Try.underlying12, Try.underlying21, Try.underlying22, Try.underlying23, Try.underlying24, Try.underlying25, Try.underlying26, Try.underlying39, Try.underlying40, Try.underlying42, Try.underlying43, Try.underlying46, Try.underlying52, Try.underlying53, Try.underlying54, Try.underlying55, Try.underlying62, Try.underlying71, Try.underlying72, Try.underlying93, Try.underlying94, Try.underlying98, Try.underlying100, Try.underlying111, Try.underlying120, e_skip, e_label, e_ret, e_exit, e_seq, e_cond, e_block, e_region, seqK_normal, seqK_ret, seqK_exit, blkK_normal, blkK_ret, blkK_exit, condK_some, regK_true, regK_false, e_nil, e_cons, gateK_go, gateK_skip, gateK_ask, pickK_some, exK_some, x_pick, x_move, x_assign, x_alloc, x_box, x_build, x_buildSlice, x_load, x_store, x_binOp, x_unOp, x_convert, x_makeSlice, x_slice, x_fieldAddr, x_field, x_indexAddr, x_extract, x_nilCheck, x_call, x_len, x_append, x_min, oMin, eqAVs, callK_some, done_ret, done_normal, doneO_ret, doneO_normal, endsO_one, endsO_nil, endsO_more, ownAbs, frzAbs, leafs, leafs.leafsL, uniq, idxOf, bk, zipB, Blk.liveB, gate_none, gate_some, gateS_none, gateS_some, gateV_bool, gateV_undef, boolOf, evA, putT, refn, fpD, oBin, oUn, upsl, upl, up, ups, lk, dstsOf, resL, resA, packA, oLoad, oStore, oAlloc, oBox, oBuild, oBuildSlice, oMake, oAppend, oIndexAddr, oFieldAddr, oField, oExtract, oNil, oSlice, oLen, oConvert, rowLoad, fillA, fillR, dk, dks, dkRows, frz, loOf, hiOf, lenOf, rowsOf, nilV, lenV, putAt, views, viewsOk, CK.av, CK.ok, AV.cells, AV.one, Value.oneCell', Value.cells, pureAbs, nrm, nrm.nrmL, hpAt, sh, AV.ren, AV.ren.renL, Blk.ren, fpOf, footO, foot, blkIds, AV.ids, AV.ids.idsL, Op.operands, Call.operands, List.find?_cons, List.find?_nil, Nat.reduceBEq, beq_self_eq_true, List.map_cons, List.map_nil, List.getD_cons_zero, List.getD_cons_succ, List.getD_nil, List.set_cons_zero, List.set_cons_succ, List.length_cons, List.length_nil, List.replicate, List.cons_append, List.nil_append, List.append_nil, List.getElem?_cons_zero, List.getElem?_cons_succ, List.getElem?_toArray, List.getElem?_nil, List.take_zero, List.take_succ_cons, List.take_nil, List.drop_zero, List.drop_succ_cons, List.drop_nil, List.headD_cons, List.tail_cons, List.flatten_cons, List.flatten_nil, List.flatMap_cons, List.flatMap_nil, List.toList_toArray, Array.toList_append, Option.bind_some, Option.map_some, Option.map_none, Option.isSome_some, List.all_nil, List.all_cons, Bool.and_self, Bool.and_true, Bool.true_and, true_and, and_true, ↓reduceIte, List.size_toArray, Bool.false_eq_true, Bool.true_eq_false, false_implies, true_implies, Bool.not_true, Bool.not_false, and_self, implies_true, decide_true, decide_false, Nat.reduceAdd, Nat.reduceMul, Nat.reduceLT, Nat.reduceSub, Nat.reduceLeDiff, Nat.reduceEqDiff, eq_self, ne_eq, not_false_eq_true, false_and, and_false, reduceCtorEq, List.filter_nil, List.filter_cons, List.isEmpty_nil, List.isEmpty_cons, bne_self_eq_false, Nat.reduceBneDiff, Nat.lt_add_one, Nat.zero_lt_succ, List.append_assoc, Nat.zero_le, and_self_iff, Int.reduceToNat, decide_eq_true_eq, decide_eq_false_iff_not, beq_iff_eq, Int.toNat_natCast, hx, he']
    simp only [queryV, ← he]
    refine ⟨by omega, by omega, by omega, by omega, by omega, ?_⟩
    by_cases ho : (decide (0 < n) && pickV xs (p + 1 + 1 + 1 + 1) n == n - 1) = true
    · simp only [ho, ↓reduceIte]
      refine ⟨by omega, ?_⟩
      by_cases h0 : pickV xs (p + 1 + 1 + 1 + 1 + e) 3 = 0
      · simp only [h0, ↓reduceIte]
        exact ⟨by omega, [], by (refine ⟨?_, ?_, ?_⟩ <;> simp [fitT, fit1, fitH, fitB, emptyB, rn, lk, AV.ren, AV.ren.renL, Blk.ren, blkIds, blkPids, AV.ids, AV.ids.idsL, AV.pids, AV.pids.pidsL, Blk.there]), by simp [keepIds, rn, List.range, List.range.loop]⟩
      · simp only [h0, ↓reduceIte]
        by_cases h1 : pickV xs (p + 1 + 1 + 1 + 1 + e) 3 = 1
        · simp only [h1, ↓reduceIte]
          exact ⟨[], by (refine ⟨?_, ?_, ?_⟩ <;> simp [fitT, fit1, fitH, fitB, emptyB, rn, lk, AV.ren, AV.ren.renL, Blk.ren, blkIds, blkPids, AV.ids, AV.ids.idsL, AV.pids, AV.pids.pidsL, Blk.there]), by simp [keepIds, rn, List.range, List.range.loop]⟩
        · simp only [h1, ↓reduceIte]
          exact ⟨by omega, [], by (refine ⟨?_, ?_, ?_⟩ <;> simp [fitT, fit1, fitH, fitB, emptyB, rn, lk, AV.ren, AV.ren.renL, Blk.ren, blkIds, blkPids, AV.ids, AV.ids.idsL, AV.pids, AV.pids.pidsL, Blk.there]), by simp [keepIds, rn, List.range, List.range.loop]⟩
    · simp only [ho, ↓reduceIte, Bool.false_eq_true]
      exact ⟨[], by (refine ⟨?_, ?_, ?_⟩ <;> simp [fitT, fit1, fitH, fitB, emptyB, rn, lk, AV.ren, AV.ren.renL, Blk.ren, blkIds, blkPids, AV.ids, AV.ids.idsL, AV.pids, AV.pids.pidsL, Blk.there]), by simp [keepIds, rn, List.range, List.range.loop]⟩
  · cases hg
def g_draw2q : PC := fun args => match args with
  | [.l _ rows] => some (∃ xs, rows = rowsOfBytes xs, .agg [.v (.int .i64 (queryV ((bytesOfRows rows).take 2000) 0 2).k), .v (.int .i64 (queryV ((bytesOfRows rows).take 2000) 0 2).l), .v (.int .i64 (queryV ((bytesOfRows rows).take 2000) 0 2).a), .v (.int .i64 (queryV ((bytesOfRows rows).take 2000) 0 2).w)], [])
  | _ => none
def g_draw6q : PC := fun args => match args with
  | [.l _ rows] => some (∃ xs, rows = rowsOfBytes xs, .agg [.v (.int .i64 (queryV ((bytesOfRows rows).take 2000) 0 6).k), .v (.int .i64 (queryV ((bytesOfRows rows).take 2000) 0 6).l), .v (.int .i64 (queryV ((bytesOfRows rows).take 2000) 0 6).a), .v (.int .i64 (queryV ((bytesOfRows rows).take 2000) 0 6).w)], [])
  | _ => none
def g_drawNT : PC := fun args => match args with
  | [.l _ rows] => some (∃ xs, rows = rowsOfBytes xs, .tup [.v (.int .i64 (IntKind.i64.wrap (pickV ((bytesOfRows rows).take 2000) 0 4 + IntKind.i64.wrap (IntKind.i64.wrap ((pickV ((bytesOfRows rows).take 2000) 1 15).tdiv 14) * 255)))), .v (.int .i64 (pickV ((bytesOfRows rows).take 2000) 2 6)), .agg [.v (.int .i64 (queryV ((bytesOfRows rows).take 2000) 3 9).k), .v (.int .i64 (queryV ((bytesOfRows rows).take 2000) 3 9).l), .v (.int .i64 (queryV ((bytesOfRows rows).take 2000) 3 9).a), .v (.int .i64 (queryV ((bytesOfRows rows).take 2000) 3 9).w)]], [])
  | _ => none
/-! the draw of bytes of a query, whole or not -/
def qqB (xs : List UInt8) : List UInt8 := qbV (queryV xs 0 0).k (queryV xs 0 0).l (queryV xs 0 0).a (queryV xs 0 0).w
theorem queryV_zero (xs : List UInt8) (p : Int) (h : p < 100000000000) : qB (queryV xs p 0).k (queryV xs p 0).l (queryV xs p 0).a (queryV xs p 0).w = true := by
  have a1 := pickV_nonneg xs p 2 (by omega)
  have a2 := pickV_lt xs p 2 (by omega)
  have a3 := pickV_nonneg xs (p + 1) 4 (by omega)
  have a4 := pickV_lt xs (p + 1) 4 (by omega)
  have a5 := pickV_nonneg xs (p + 1 + 1) 6 (by omega)
  have a6 := pickV_lt xs (p + 1 + 1) 6 (by omega)
  have a7 := pickV_nonneg xs (p + 1 + 1 + 1) 6 (by omega)
  have a8 := pickV_lt xs (p + 1 + 1 + 1) 6 (by omega)
  have w1 : IntKind.i64.wrap (1 + pickV xs p 2) = 1 + pickV xs p 2 := wrap_id (by omega) (by omega)
  unfold queryV
  rw [if_neg (by simp)]
  simp only [qB, decide_eq_true_eq, w1]
  omega
theorem two_len {v : Int} (h : 0 ≤ v ∧ v ≤ 65535) : (bytesOf v 2).length = 2 := by
  obtain ⟨x, y, e, _⟩ := bytesOf_two v h.1 h.2
  rw [e]; rfl
theorem qbV_six {k l a w : Int} (h : qB k l a w = true) : (qbV k l a w).length = 6 := by
  have h' := h
  simp only [qB, decide_eq_true_eq] at h'
  rw [qbV, if_pos h, List.length_append, List.length_append, two_len h'.2.2.1, two_len h'.2.2.2]
  rfl
def g_drawQueryFrom : OC := fun args B0 => match args, B0 with
  | [.l _ rows], [] => if pickV ((bytesOfRows rows).take 2000) 4 4 = 1 then
        some (∃ xs, rows = rowsOfBytes xs, .sub 0 0 (pickV ((bytesOfRows rows).take 2000) 5 6).toNat, [], [.sl 5 1 (rowsOfBytes (qqB ((bytesOfRows rows).take 2000)))])
      else some (∃ xs, rows = rowsOfBytes xs, .own 0, [], [.sl 5 1 (rowsOfBytes (
        if pickV ((bytesOfRows rows).take 2000) 4 4 = 0 then (qqB ((bytesOfRows rows).take 2000)).set (pickV ((bytesOfRows rows).take 2000) 5 6).toNat (toU8 (pickV ((bytesOfRows rows).take 2000) 6 256))
        else qqB ((bytesOfRows rows).take 2000)))])
  | _, _ => none
end Go.Proofs.Ytnnpijjdjdnffab
