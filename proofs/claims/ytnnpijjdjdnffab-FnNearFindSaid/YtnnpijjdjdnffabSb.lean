import Derived.Test.YtnnpijjdjdnffabSa
namespace Go.Proofs.Ytnnpijjdjdnffab
open Go.RowKit
set_option linter.unusedSimpArgs false

def reads : List (FuncId × Abs) := [(45, ownAbs g_pick), (71, ownAbs g_odd), (47, ownAbs g_bytes)]
theorem reads_ok : ∀ p ∈ reads, CallOk Try.prog p.1 p.2 := by
  intro p hp
  simp only [reads, List.mem_cons, List.not_mem_nil, or_false] at hp
  rcases hp with rfl | rfl | rfl
  · exact pick_ok.call
  · exact odd_ok.call
  · exact bytes_ok.call

/-! a reader is opened -/
def g_open : OC := fun args B0 => match args, B0 with
  | [.l _ rows], [] => some (∃ xs, rows = rowsOfBytes xs, .ptr 0 0, [], [.var 94 [.l 1 (rowsOfBytes ((bytesOfRows rows).take 2000)), .v (.int .i64 0)]])
  | _, _ => none
set_option maxRecDepth 100000 in
theorem open_ok : OwnOk Try.prog 40 g_open := by
  refine OwnOk.of_vc (G := []) (by simp) mixed Try.func40 (by kernel_rfl) rfl ?_
  intro args B0 cnd r B1 bs hg hc hlive
  unfold g_open at hg
  split at hg
  · rename_i sz rows
    cases hg
    obtain ⟨xs, rfl⟩ := hc
    rw [bytesOf_rows]
    refine ⟨⟨trivial, by simp [Blk.liveB, blkIds, AV.ids.idsL, AV.ids], by simp [AV.ids]⟩, [.l 1 (rowsOfBytes xs)], rfl, fun w Z s vs h => CvL.ok (.cons (.l _ _ _ (rowsOf_w xs)) .nil) h, ?_⟩
    simp (maxSteps := 3000000) only [Try.f40, bytesOf_rows, ty_sz2, ty_st2, ty_cell2, ty_ck2, ty_inf2, ty_sz3, ty_st3, ty_cell3, ty_ck3, ty_inf3, ty_sz4, ty_st4, ty_cell4, ty_ck4, ty_inf4, ty_sz5, ty_st5, ty_cell5, ty_ck5, ty_inf5, ty_sz9, ty_st9, ty_cell9, ty_ck9, ty_inf9, ty_sz12, ty_st12, ty_cell12, ty_ck12, ty_inf12, ty_sz21, ty_st21, ty_cell21, ty_ck21, ty_inf21, ty_sz22, ty_st22, ty_cell22, ty_ck22, ty_inf22, ty_sz23, ty_st23, ty_cell23, ty_ck23, ty_inf23, ty_sz24, ty_st24, ty_cell24, ty_ck24, ty_inf24, ty_sz25, ty_st25, ty_cell25, ty_ck25, ty_inf25, ty_eq25, ty_f25_0, ty_f25_1, ty_sz26, ty_st26, ty_cell26, ty_ck26, ty_inf26, ty_eq26, ty_f26_0, ty_f26_1, ty_sz39, ty_st39, ty_cell39, ty_ck39, ty_inf39, ty_eq39, ty_f39_0, ty_f39_1, ty_sz40, ty_st40, ty_cell40, ty_ck40, ty_inf40, ty_eq40, ty_f40_0, ty_f40_1, ty_sz42, ty_st42, ty_cell42, ty_ck42, ty_inf42, ty_eq42, ty_f42_0, ty_f42_1, ty_f42_2, ty_f42_3, ty_sz43, ty_st43, ty_cell43, ty_ck43, ty_inf43, ty_eq43, ty_f43_0, ty_f43_1, ty_f43_2, ty_f43_3, ty_sz46, ty_st46, ty_cell46, ty_ck46, ty_inf46, ty_sz52, ty_st52, ty_cell52, ty_ck52, ty_inf52, ty_sz53, ty_st53, ty_cell53, ty_ck53, ty_inf53, ty_sz54, ty_st54, ty_cell54, ty_ck54, ty_inf54, ty_eq54, ty_f54_0, ty_f54_1, ty_sz55, ty_st55, ty_cell55, ty_ck55, ty_inf55, ty_eq55, ty_f55_0, ty_f55_1, ty_sz62, ty_st62, ty_cell62, ty_ck62, ty_inf62, ty_eq62, ty_f62_0, ty_f62_1, ty_f62_2, ty_f62_3, ty_sz71, ty_st71, ty_cell71, ty_ck71, ty_inf71, ty_eq71, ty_f71_0, ty_f71_1, ty_f71_2, ty_sz72, ty_st72, ty_cell72, ty_ck72, ty_inf72, ty_eq72, ty_f72_0, ty_f72_1, ty_f72_2, ty_sz93, ty_st93, ty_cell93, ty_ck93, ty_inf93, ty_eq93, ty_f93_0, ty_f93_1, ty_sz94, ty_st94, ty_cell94, ty_ck94, ty_inf94, ty_eq94, ty_f94_0, ty_f94_1, ty_sz98, ty_st98, ty_cell98, ty_ck98, ty_inf98, ty_eq98, ty_f98_0, ty_f98_1, ty_sz100, ty_st100, ty_cell100, ty_ck100, ty_inf100, ty_eq100, ty_f100_0, ty_f100_1, ty_f100_2, ty_sz111, ty_st111, ty_cell111, ty_ck111, ty_inf111, ty_sz120, ty_st120, ty_cell120, ty_ck120, ty_inf120, Try.underlying2, Try.underlying3, Try.underlying4, Try.underlying5, Try.underlying9, Try.underlying12, Try.underlying21, Try.underlying22, Try.underlying23, Try.underlying24, Try.underlying25, Try.underlying26, Try.underlying39, Try.underlying40, Try.underlying42, Try.underlying43, Try.underlying46, Try.underlying52, Try.underlying53, Try.underlying54, Try.underlying55, Try.underlying62, Try.underlying71, Try.underlying72, Try.underlying93, Try.underlying94, Try.underlying98, Try.underlying100, Try.underlying111, Try.underlying120, e_skip, e_label, e_ret, e_exit, e_seq, e_cond, e_block, e_region, seqK_normal, seqK_ret, seqK_exit, blkK_normal, blkK_ret, blkK_exit, condK_some, regK_true, regK_false, e_nil, e_cons, gateK_go, gateK_skip, gateK_ask, pickK_some, exK_some, x_pick, x_move, x_assign, x_alloc, x_box, x_build, x_buildSlice, x_load, x_store, x_binOp, x_unOp, x_convert, x_makeSlice, x_slice, x_fieldAddr, x_field, x_indexAddr, x_extract, x_nilCheck, x_call, x_len, x_append, x_min, oMin, eqAVs, callK_some, done_ret, done_normal, doneO_ret, doneO_normal, endsO_one, endsO_nil, endsO_more, ownAbs, frzAbs, leafs, leafs.leafsL, uniq, idxOf, bk, zipB, Blk.liveB, gate_none, gate_some, gateS_none, gateS_some, gateV_bool, gateV_undef, boolOf, evA, putT, refn, fpD, oBin, oUn, upsl, upl, up, ups, lk, dstsOf, resL, resA, packA, oLoad, oStore, oAlloc, oBox, oBuild, oBuildSlice, oMake, oAppend, oIndexAddr, oFieldAddr, oField, oExtract, oNil, oSlice, oLen, oConvert, rowLoad, fillA, fillR, dk, dks, dkRows, frz, loOf, hiOf, lenOf, rowsOf, nilV, lenV, putAt, views, viewsOk, CK.av, CK.ok, AV.cells, AV.one, Value.oneCell', Value.cells, pureAbs, nrm, nrm.nrmL, hpAt, sh, AV.ren, AV.ren.renL, Blk.ren, fpOf, footO, foot, blkIds, AV.ids, AV.ids.idsL, Op.operands, Call.operands, List.find?_cons, List.find?_nil, Nat.reduceBEq, beq_self_eq_true, List.map_cons, List.map_nil, List.getD_cons_zero, List.getD_cons_succ, List.getD_nil, List.set_cons_zero, List.set_cons_succ, List.length_cons, List.length_nil, List.replicate, List.cons_append, List.nil_append, List.append_nil, List.getElem?_cons_zero, List.getElem?_cons_succ, List.getElem?_toArray, List.getElem?_nil, List.take_zero, List.take_succ_cons, List.take_nil, List.drop_zero, List.drop_succ_cons, List.drop_nil, List.headD_cons, List.tail_cons, List.flatten_cons, List.flatten_nil, List.flatMap_cons, List.flatMap_nil, List.toList_toArray, Array.toList_append, Option.bind_some, Option.map_some, Option.map_none, Option.isSome_some, List.all_nil, List.all_cons, Bool.and_self, Bool.and_true, Bool.true_and, true_and, and_true, ↓reduceIte, List.size_toArray, Bool.false_eq_true, Bool.true_eq_false, false_implies, true_implies, Bool.not_true, Bool.not_false, and_self, implies_true, decide_true, decide_false, Nat.reduceAdd, Nat.reduceMul, Nat.reduceLT, Nat.reduceSub, Nat.reduceLeDiff, Nat.reduceEqDiff, eq_self, ne_eq, not_false_eq_true, false_and, and_false, reduceCtorEq, List.filter_nil, List.filter_cons, List.isEmpty_nil, List.isEmpty_cons, bne_self_eq_false, Nat.reduceBneDiff, Nat.lt_add_one, Nat.zero_lt_succ, List.append_assoc, Nat.zero_le, and_self_iff, Int.reduceToNat, rowsOf_len, row_toI, row_nil, row_head, decide_eq_true_eq, decide_eq_false_iff_not, beq_iff_eq, Int.toNat_natCast]
    by_cases h : (xs.length : Int) > 2000
    · rw [if_pos h, rowsOf_take]
      exact ⟨by omega, [(0, some 144)], by (refine ⟨?_, ?_, ?_⟩ <;> simp [fitT, fit1, fitH, fitB, emptyB, rn, lk, AV.ren, AV.ren.renL, Blk.ren, blkIds, blkPids, AV.ids, AV.ids.idsL, AV.pids, AV.pids.pidsL, Blk.there]), by simp [keepIds, rn, List.range, List.range.loop]⟩
    · rw [if_neg h, List.take_of_length_le (by omega)]
      exact ⟨[(0, some 96)], by (refine ⟨?_, ?_, ?_⟩ <;> simp [fitT, fit1, fitH, fitB, emptyB, rn, lk, AV.ren, AV.ren.renL, Blk.ren, blkIds, blkPids, AV.ids, AV.ids.idsL, AV.pids, AV.pids.pidsL, Blk.there]), by simp [keepIds, rn, List.range, List.range.loop]⟩
  · cases hg

/-! a frame is drawn -/
structure FrameV where
  to : Int
  frm : Int
  kind : Int
  data : List UInt8
  p : Int
def frameP (xs : List UInt8) (p : Int) : Int := p + 1 + 1 + 1 + 1 + 2 * ((pickV xs (p + 1 + 1 + 1) 9).toNat : Int)
def oneIf (n : Int) : Int := if 0 < n then 1 else 0
theorem oneIf_le (n : Int) : 0 ≤ oneIf n ∧ oneIf n ≤ 1 := by unfold oneIf; split <;> omega
def frameV (xs : List UInt8) (p n : Int) : FrameV :=
  if (decide (0 < n) && pickV xs (frameP xs p + 1) n == n - 1) = true then
    if pickV xs (frameP xs p + 1 + oneIf n) 4 = 0 then ⟨IntKind.i64.wrap (256 - IntKind.i64.wrap (pickV xs (frameP xs p + 1 + oneIf n + 1) 2 * 300)), pickV xs (p + 1) 4, pickV xs (p + 1 + 1) 5, bytesV xs (p + 1 + 1 + 1 + 1) (pickV xs (p + 1 + 1 + 1) 9).toNat, frameP xs p + 1 + oneIf n + 1 + 1⟩
    else if pickV xs (frameP xs p + 1 + oneIf n) 4 = 1 then ⟨if pickV xs (frameP xs p) 3 = 0 then 255 else pickV xs p 4, 255, pickV xs (p + 1 + 1) 5, bytesV xs (p + 1 + 1 + 1 + 1) (pickV xs (p + 1 + 1 + 1) 9).toNat, frameP xs p + 1 + oneIf n + 1⟩
    else if pickV xs (frameP xs p + 1 + oneIf n) 4 = 2 then ⟨if pickV xs (frameP xs p) 3 = 0 then 255 else pickV xs p 4, pickV xs (p + 1) 4, 256, bytesV xs (p + 1 + 1 + 1 + 1) (pickV xs (p + 1 + 1 + 1) 9).toNat, frameP xs p + 1 + oneIf n + 1⟩
    else ⟨if pickV xs (frameP xs p) 3 = 0 then 255 else pickV xs p 4, pickV xs (p + 1) 4, pickV xs (p + 1 + 1) 5, List.replicate 65 0, frameP xs p + 1 + oneIf n + 1⟩
  else ⟨if pickV xs (frameP xs p) 3 = 0 then 255 else pickV xs p 4, pickV xs (p + 1) 4, pickV xs (p + 1 + 1) 5, bytesV xs (p + 1 + 1 + 1 + 1) (pickV xs (p + 1 + 1 + 1) 9).toNat, frameP xs p + 1 + oneIf n⟩
theorem rowsOf_zero (k : Nat) : rowsOfBytes (List.replicate k 0) = List.replicate k [.v (.int .u8 0)] := by simp [rowsOfBytes]
def g_frame : OC := fun args B0 => match args, B0 with
  | [.ptr r o, .v (.int .i64 n)], [.var T [.l 1 rows, .v (.int .i64 p)]] => some (T = 94 ∧ r = 0 ∧ o = 0 ∧ (∃ xs, rows = rowsOfBytes xs ∧ xs.length ≤ 2000) ∧ 0 ≤ p ∧ p < 100000000000 ∧ 0 ≤ n ∧ n ≤ 1000000,
      .agg [.v (.int .i64 (frameV (bytesOfRows rows) p n).to), .v (.int .i64 (frameV (bytesOfRows rows) p n).frm), .v (.int .i64 (frameV (bytesOfRows rows) p n).kind), .own 1], [.var T [.l 1 rows, .v (.int .i64 (frameV (bytesOfRows rows) p n).p)]], [.sl 5 1 (rowsOfBytes (frameV (bytesOfRows rows) p n).data)])
  | _, _ => none
end Go.Proofs.Ytnnpijjdjdnffab
