import Derived.Test.YtdanjfnobanehaaSa
namespace Go.Proofs.Ytdanjfnobanehaa
open Go.RowKit
set_option linter.unusedSimpArgs false

def reads : List (FuncId × Abs) := [(62, ownAbs g_pick), (111, ownAbs g_odd), (63, ownAbs g_bytes)]
theorem reads_ok : ∀ p ∈ reads, CallOk Try.prog p.1 p.2 := by
  intro p hp
  simp only [reads, List.mem_cons, List.not_mem_nil, or_false] at hp
  rcases hp with rfl | rfl | rfl
  · exact pick_ok.call
  · exact odd_ok.call
  · exact bytes_ok.call

/-! a reader is opened -/
def g_open : OC := fun args B0 => match args, B0 with
  | [.l _ rows], [] => some (∃ xs, rows = rowsOfBytes xs, .ptr 0 0, [], [.var 113 [.l 1 (rowsOfBytes ((bytesOfRows rows).take 2000)), .v (.int .i64 0)]])
  | _, _ => none
set_option maxRecDepth 100000 in
theorem open_ok : OwnOk Try.prog 60 g_open := by
  refine OwnOk.of_vc (G := []) (by simp) mixed Try.func60 (by kernel_rfl) rfl ?_
  intro args B0 cnd r B1 bs hg hc hlive
  unfold g_open at hg
  split at hg
  · rename_i sz rows
    cases hg
    obtain ⟨xs, rfl⟩ := hc
    rw [bytesOf_rows]
    refine ⟨⟨trivial, by simp [Blk.liveB, blkIds, AV.ids.idsL, AV.ids], by simp [AV.ids]⟩, [.l 1 (rowsOfBytes xs)], rfl, fun w Z s vs h => CvL.ok (.cons (.l _ _ _ (rowsOf_w xs)) .nil) h, ?_⟩
    simp (maxSteps := 3000000) only [Try.f60, bytesOf_rows, tY2, tY3, tY4, tY5, tY9, tY12, tY21, tY22, tY23, tY24, tY25, tY26, tY35, tY36, tY39, tY40, tY43, tY49, tY50, tY60, tY61, tY62, tY63, tY69, tY73, tY88, tY89, tY112, tY113, tY119, tY121, tY132, tY141, Try.underlying2, Try.underlying3, Try.underlying4, Try.underlying5, Try.underlying9, Try.underlying12, Try.underlying21, Try.underlying22, Try.underlying23, Try.underlying24, Try.underlying25, Try.underlying26, Try.underlying35, Try.underlying36, Try.underlying39, Try.underlying40, Try.underlying43, Try.underlying49, Try.underlying50, Try.underlying60, Try.underlying61, Try.underlying62, Try.underlying63, Try.underlying69, Try.underlying73, Try.underlying88, Try.underlying89, Try.underlying112, Try.underlying113, Try.underlying119, Try.underlying121, Try.underlying132, Try.underlying141, e_skip, e_label, e_ret, e_exit, e_seq, e_cond, e_block, e_region, seqK_normal, seqK_ret, seqK_exit, blkK_normal, blkK_ret, blkK_exit, condK_some, regK_true, regK_false, e_nil, e_cons, gateK_go, gateK_skip, gateK_ask, pickK_some, exK_some, x_pick, x_move, x_assign, x_alloc, x_box, x_build, x_buildSlice, x_load, x_store, x_binOp, x_unOp, x_convert, x_makeSlice, x_slice, x_fieldAddr, x_field, x_indexAddr, x_extract, x_nilCheck, x_call, x_len, x_append, x_min, oMin, x_copy, oCopy, eqAVs, callK_some, done_ret, done_normal, doneO_ret, doneO_normal, endsO_one, endsO_nil, endsO_more, ownAbs, frzAbs, leafs, leafs.leafsL, uniq, idxOf, bk, zipB, Blk.liveB, gate_none, gate_some, gateS_none, gateS_some, gateV_bool, gateV_undef, boolOf, evA, putT, refn, fpD, oBin, oUn, upsl, upl, up, ups, lk, dstsOf, resL, resA, packA, oLoad, oStore, oAlloc, oBox, oBuild, oBuildSlice, oMake, oAppend, oIndexAddr, oFieldAddr, oField, oExtract, oNil, oSlice, oLen, oConvert, rowLoad, fillA, fillR, dk, dks, dkRows, frz, loOf, hiOf, lenOf, rowsOf, nilV, lenV, putAt, views, viewsOk, CK.av, CK.ok, AV.cells, AV.one, Value.oneCell', Value.cells, pureAbs, nrm, nrm.nrmL, hpAt, sh, AV.ren, AV.ren.renL, Blk.ren, fpOf, footO, foot, blkIds, AV.ids, AV.ids.idsL, Op.operands, Call.operands, List.find?_cons, List.find?_nil, Nat.reduceBEq, beq_self_eq_true, List.map_cons, List.map_nil, List.getD_cons_zero, List.getD_cons_succ, List.getD_nil, List.set_cons_zero, List.set_cons_succ, List.length_cons, List.length_nil, List.replicate, List.cons_append, List.nil_append, List.append_nil, List.getElem?_cons_zero, List.getElem?_cons_succ, List.getElem?_toArray, List.getElem?_nil, List.take_zero, List.take_succ_cons, List.take_nil, List.drop_zero, List.drop_succ_cons, List.drop_nil, List.headD_cons, List.tail_cons, List.flatten_cons, List.flatten_nil, List.flatMap_cons, List.flatMap_nil, List.toList_toArray, Array.toList_append, Option.bind_some, Option.map_some, Option.map_none, Option.isSome_some, List.all_nil, List.all_cons, Bool.and_self, Bool.and_true, Bool.true_and, true_and, and_true, ↓reduceIte, List.size_toArray, Bool.false_eq_true, Bool.true_eq_false, false_implies, true_implies, Bool.not_true, Bool.not_false, and_self, implies_true, decide_true, decide_false, Nat.reduceAdd, Nat.reduceMul, Nat.reduceLT, Nat.reduceSub, Nat.reduceLeDiff, Nat.reduceEqDiff, eq_self, ne_eq, not_false_eq_true, false_and, and_false, reduceCtorEq, List.filter_nil, List.filter_cons, List.isEmpty_nil, List.isEmpty_cons, bne_self_eq_false, Nat.reduceBneDiff, Nat.lt_add_one, Nat.zero_lt_succ, List.append_assoc, Nat.zero_le, and_self_iff, Int.reduceToNat, rowsOf_len, row_toI, row_nil, row_head, decide_eq_true_eq, decide_eq_false_iff_not, beq_iff_eq, Int.toNat_natCast]
    by_cases h : (xs.length : Int) > 2000
    · rw [if_pos h, rowsOf_take]
      exact ⟨by omega, [(0, some 144)], by (refine ⟨?_, ?_, ?_⟩ <;> simp [fitT, fit1, fitH, fitB, emptyB, rn, lk, AV.ren, AV.ren.renL, Blk.ren, blkIds, blkPids, AV.ids, AV.ids.idsL, AV.pids, AV.pids.pidsL, Blk.there]), by simp [keepIds, rn, List.range, List.range.loop]⟩
    · rw [if_neg h, List.take_of_length_le (by omega)]
      exact ⟨[(0, some 96)], by (refine ⟨?_, ?_, ?_⟩ <;> simp [fitT, fit1, fitH, fitB, emptyB, rn, lk, AV.ren, AV.ren.renL, Blk.ren, blkIds, blkPids, AV.ids, AV.ids.idsL, AV.pids, AV.pids.pidsL, Blk.there]), by simp [keepIds, rn, List.range, List.range.loop]⟩
  · cases hg

/-! a frame is drawn -/
structure FrameV where
  to : Int
  frm : Int
  kind : Int
  data : List UInt8
  p : Int
def frameP (xs : List UInt8) (p : Int) : Int := p + 1 + 1 + 1 + 1 + 2 * ((pickV xs (p + 1 + 1 + 1) 9).toNat : Int)
def oneIf (n : Int) : Int := if 0 < n then 1 else 0
theorem oneIf_le (n : Int) : 0 ≤ oneIf n ∧ oneIf n ≤ 1 := by unfold oneIf; split <;> omega
def frameV (xs : List UInt8) (p n : Int) : FrameV :=
  if (decide (0 < n) && pickV xs (frameP xs p + 1) n == n - 1) = true then
    if pickV xs (frameP xs p + 1 + oneIf n) 4 = 0 then ⟨IntKind.i64.wrap (256 - IntKind.i64.wrap (pickV xs (frameP xs p + 1 + oneIf n + 1) 2 * 300)), pickV xs (p + 1) 4, pickV xs (p + 1 + 1) 5, bytesV xs (p + 1 + 1 + 1 + 1) (pickV xs (p + 1 + 1 + 1) 9).toNat, frameP xs p + 1 + oneIf n + 1 + 1⟩
    else if pickV xs (frameP xs p + 1 + oneIf n) 4 = 1 then ⟨if pickV xs (frameP xs p) 3 = 0 then 255 else pickV xs p 4, 255, pickV xs (p + 1 + 1) 5, bytesV xs (p + 1 + 1 + 1 + 1) (pickV xs (p + 1 + 1 + 1) 9).toNat, frameP xs p + 1 + oneIf n + 1⟩
    else if pickV xs (frameP xs p + 1 + oneIf n) 4 = 2 then ⟨if pickV xs (frameP xs p) 3 = 0 then 255 else pickV xs p 4, pickV xs (p + 1) 4, 256, bytesV xs (p + 1 + 1 + 1 + 1) (pickV xs (p + 1 + 1 + 1) 9).toNat, frameP xs p + 1 + oneIf n + 1⟩
    else ⟨if pickV xs (frameP xs p) 3 = 0 then 255 else pickV xs p 4, pickV xs (p + 1) 4, pickV xs (p + 1 + 1) 5, List.replicate 65 0, frameP xs p + 1 + oneIf n + 1⟩
  else ⟨if pickV xs (frameP xs p) 3 = 0 then 255 else pickV xs p 4, pickV xs (p + 1) 4, pickV xs (p + 1 + 1) 5, bytesV xs (p + 1 + 1 + 1 + 1) (pickV xs (p + 1 + 1 + 1) 9).toNat, frameP xs p + 1 + oneIf n⟩
theorem rowsOf_zero (k : Nat) : rowsOfBytes (List.replicate k 0) = List.replicate k [.v (.int .u8 0)] := by simp [rowsOfBytes]
def g_frame : OC := fun args B0 => match args, B0 with
  | [.ptr r o, .v (.int .i64 n)], [.var T [.l 1 rows, .v (.int .i64 p)]] => some (T = 113 ∧ r = 0 ∧ o = 0 ∧ (∃ xs, rows = rowsOfBytes xs ∧ xs.length ≤ 2000) ∧ 0 ≤ p ∧ p < 100000000000 ∧ 0 ≤ n ∧ n ≤ 1000000,
      .agg [.v (.int .i64 (frameV (bytesOfRows rows) p n).to), .v (.int .i64 (frameV (bytesOfRows rows) p n).frm), .v (.int .i64 (frameV (bytesOfRows rows) p n).kind), .own 1], [.var T [.l 1 rows, .v (.int .i64 (frameV (bytesOfRows rows) p n).p)]], [.sl 5 1 (rowsOfBytes (frameV (bytesOfRows rows) p n).data)])
  | _, _ => none
end Go.Proofs.Ytdanjfnobanehaa
