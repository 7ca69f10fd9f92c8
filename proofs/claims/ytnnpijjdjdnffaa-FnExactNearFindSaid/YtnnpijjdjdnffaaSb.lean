import Derived.Test.YtnnpijjdjdnffaaSa
namespace Go.Proofs.Ytnnpijjdjdnffaa
open Go.RowKit
set_option linter.unusedSimpArgs false

def reads : List (FuncId × Abs) := [(59, ownAbs g_pick), (75, ownAbs g_odd), (74, ownAbs g_bytes)]
theorem reads_ok : ∀ p ∈ reads, CallOk Try.prog p.1 p.2 := by
  intro p hp
  simp only [reads, List.mem_cons, List.not_mem_nil, or_false] at hp
  rcases hp with rfl | rfl | rfl
  · exact pick_ok.call
  · exact odd_ok.call
  · exact bytes_ok.call

/-! a reader is opened -/
def g_open : OC := fun args B0 => match args, B0 with
  | [.l _ rows], [] => some (∃ xs, rows = rowsOfBytes xs, .ptr 0 0, [], [.var 91 [.l 1 (rowsOfBytes ((bytesOfRows rows).take 2000)), .v (.int .i64 0)]])
  | _, _ => none
set_option maxRecDepth 100000 in
theorem open_ok : OwnOk Try.prog 51 g_open := by
  refine OwnOk.of_vc (G := []) (by simp) mixed Try.func51 (by kernel_rfl) rfl ?_
  intro args B0 cnd r B1 bs hg hc hlive
  unfold g_open at hg
  split at hg
  · rename_i sz rows
    cases hg
    obtain ⟨xs, rfl⟩ := hc
    rw [bytesOf_rows]
    refine ⟨⟨trivial, by simp [Blk.liveB, blkIds, AV.ids.idsL, AV.ids], by simp [AV.ids]⟩, [.l 1 (rowsOfBytes xs)], rfl, fun w Z s vs h => CvL.ok (.cons (.l _ _ _ (rowsOf_w xs)) .nil) h, ?_⟩
    simp (maxSteps := 3000000) only [Try.f51, bytesOf_rows, ty_sz2, ty_st2, ty_cell2, ty_ck2, ty_inf2, ty_sz3, ty_st3, ty_cell3, ty_ck3, ty_inf3, ty_sz4, ty_st4, ty_cell4, ty_ck4, ty_inf4, ty_sz5, ty_st5, ty_cell5, ty_ck5, ty_inf5, ty_sz9, ty_st9, ty_cell9, ty_ck9, ty_inf9, ty_sz12, ty_st12, ty_cell12, ty_ck12, ty_inf12, ty_sz21, ty_st21, ty_cell21, ty_ck21, ty_inf21, ty_sz22, ty_st22, ty_cell22, ty_ck22, ty_inf22, ty_sz23, ty_st23, ty_cell23, ty_ck23, ty_inf23, ty_eq23, ty_f23_0, ty_f23_1, ty_f23_2, ty_f23_3, ty_sz24, ty_st24, ty_cell24, ty_ck24, ty_inf24, ty_eq24, ty_f24_0, ty_f24_1, ty_f24_2, ty_f24_3, ty_sz35, ty_st35, ty_cell35, ty_ck35, ty_inf35, ty_eq35, ty_f35_0, ty_f35_1, ty_f35_2, ty_f35_3, ty_sz36, ty_st36, ty_cell36, ty_ck36, ty_inf36, ty_eq36, ty_f36_0, ty_f36_1, ty_f36_2, ty_f36_3, ty_sz38, ty_st38, ty_cell38, ty_ck38, ty_inf38, ty_eq38, ty_f38_0, ty_f38_1, ty_f38_2, ty_f38_3, ty_sz51, ty_st51, ty_cell51, ty_ck51, ty_inf51, ty_sz52, ty_st52, ty_cell52, ty_ck52, ty_inf52, ty_sz53, ty_st53, ty_cell53, ty_ck53, ty_inf53, ty_eq53, ty_f53_0, ty_f53_1, ty_sz54, ty_st54, ty_cell54, ty_ck54, ty_inf54, ty_eq54, ty_f54_0, ty_f54_1, ty_sz57, ty_st57, ty_cell57, ty_ck57, ty_inf57, ty_sz58, ty_st58, ty_cell58, ty_ck58, ty_inf58, ty_sz59, ty_st59, ty_cell59, ty_ck59, ty_inf59, ty_eq59, ty_f59_0, ty_f59_1, ty_sz60, ty_st60, ty_cell60, ty_ck60, ty_inf60, ty_eq60, ty_f60_0, ty_f60_1, ty_sz78, ty_st78, ty_cell78, ty_ck78, ty_inf78, ty_eq78, ty_f78_0, ty_f78_1, ty_f78_2, ty_sz79, ty_st79, ty_cell79, ty_ck79, ty_inf79, ty_eq79, ty_f79_0, ty_f79_1, ty_f79_2, ty_sz80, ty_st80, ty_cell80, ty_ck80, ty_inf80, ty_eq80, ty_f80_0, ty_f80_1, ty_sz81, ty_st81, ty_cell81, ty_ck81, ty_inf81, ty_eq81, ty_f81_0, ty_f81_1, ty_sz90, ty_st90, ty_cell90, ty_ck90, ty_inf90, ty_eq90, ty_f90_0, ty_f90_1, ty_sz91, ty_st91, ty_cell91, ty_ck91, ty_inf91, ty_eq91, ty_f91_0, ty_f91_1, ty_sz94, ty_st94, ty_cell94, ty_ck94, ty_inf94, ty_eq94, ty_f94_0, ty_f94_1, ty_sz96, ty_st96, ty_cell96, ty_ck96, ty_inf96, ty_eq96, ty_f96_0, ty_f96_1, ty_f96_2, ty_sz108, ty_st108, ty_cell108, ty_ck108, ty_inf108, ty_sz117, ty_st117, ty_cell117, ty_ck117, ty_inf117, Try.underlying2, Try.underlying3, Try.underlying4, Try.underlying5, Try.underlying9, Try.underlying12, Try.underlying21, Try.underlying22, Try.underlying23, Try.underlying24, Try.underlying35, Try.underlying36, Try.underlying38, Try.underlying51, Try.underlying52, Try.underlying53, Try.underlying54, Try.underlying57, Try.underlying58, Try.underlying59, Try.underlying60, Try.underlying78, Try.underlying79, Try.underlying80, Try.underlying81, Try.underlying90, Try.underlying91, Try.underlying94, Try.underlying96, Try.underlying108, Try.underlying117, e_skip, e_label, e_ret, e_exit, e_seq, e_cond, e_block, e_region, seqK_normal, seqK_ret, seqK_exit, blkK_normal, blkK_ret, blkK_exit, condK_some, regK_true, regK_false, e_nil, e_cons, gateK_go, gateK_skip, gateK_ask, pickK_some, exK_some, x_pick, x_move, x_assign, x_alloc, x_box, x_build, x_buildSlice, x_load, x_store, x_binOp, x_unOp, x_convert, x_makeSlice, x_slice, x_fieldAddr, x_field, x_indexAddr, x_extract, x_nilCheck, x_call, x_len, x_append, x_min, oMin, eqAVs, callK_some, done_ret, done_normal, doneO_ret, doneO_normal, endsO_one, endsO_nil, endsO_more, ownAbs, frzAbs, leafs, leafs.leafsL, uniq, idxOf, bk, zipB, Blk.liveB, gate_none, gate_some, gateS_none, gateS_some, gateV_bool, gateV_undef, boolOf, evA, putT, refn, fpD, oBin, oUn, upsl, upl, up, ups, lk, dstsOf, resL, resA, packA, oLoad, oStore, oAlloc, oBox, oBuild, oBuildSlice, oMake, oAppend, oIndexAddr, oFieldAddr, oField, oExtract, oNil, oSlice, oLen, oConvert, rowLoad, fillA, fillR, dk, dks, dkRows, frz, loOf, hiOf, lenOf, rowsOf, nilV, lenV, putAt, views, viewsOk, CK.av, CK.ok, AV.cells, AV.one, Value.oneCell', Value.cells, pureAbs, nrm, nrm.nrmL, hpAt, sh, AV.ren, AV.ren.renL, Blk.ren, fpOf, foot, blkIds, AV.ids, AV.ids.idsL, Op.operands, Call.operands, List.find?_cons, List.find?_nil, Nat.reduceBEq, beq_self_eq_true, List.map_cons, List.map_nil, List.getD_cons_zero, List.getD_cons_succ, List.getD_nil, List.set_cons_zero, List.set_cons_succ, List.length_cons, List.length_nil, List.replicate, List.cons_append, List.nil_append, List.append_nil, List.getElem?_cons_zero, List.getElem?_cons_succ, List.getElem?_toArray, List.getElem?_nil, List.take_zero, List.take_succ_cons, List.take_nil, List.drop_zero, List.drop_succ_cons, List.drop_nil, List.headD_cons, List.tail_cons, List.flatten_cons, List.flatten_nil, List.flatMap_cons, List.flatMap_nil, List.toList_toArray, Array.toList_append, Option.bind_some, Option.map_some, Option.map_none, Option.isSome_some, List.all_nil, List.all_cons, Bool.and_self, Bool.and_true, Bool.true_and, true_and, and_true, ↓reduceIte, List.size_toArray, Bool.false_eq_true, Bool.true_eq_false, false_implies, true_implies, Bool.not_true, Bool.not_false, and_self, implies_true, decide_true, decide_false, Nat.reduceAdd, Nat.reduceMul, Nat.reduceLT, Nat.reduceSub, Nat.reduceLeDiff, Nat.reduceEqDiff, eq_self, ne_eq, not_false_eq_true, false_and, and_false, reduceCtorEq, List.filter_nil, List.filter_cons, List.isEmpty_nil, List.isEmpty_cons, bne_self_eq_false, Nat.reduceBneDiff, Nat.lt_add_one, Nat.zero_lt_succ, List.append_assoc, Nat.zero_le, and_self_iff, Int.reduceToNat, rowsOf_len, row_toI, row_nil, row_head, decide_eq_true_eq, decide_eq_false_iff_not, beq_iff_eq, Int.toNat_natCast]
    by_cases h : (xs.length : Int) > 2000
    · rw [if_pos h, rowsOf_take]
      exact ⟨by omega, [(0, some 144)], by (refine ⟨?_, ?_, ?_⟩ <;> simp [fitT, fit1, fitH, fitB, emptyB, rn, lk, AV.ren, AV.ren.renL, Blk.ren, blkIds, blkPids, AV.ids, AV.ids.idsL, AV.pids, AV.pids.pidsL, Blk.there]), by simp [keepIds, rn, List.range, List.range.loop]⟩
    · rw [if_neg h, List.take_of_length_le (by omega)]
      exact ⟨[(0, some 96)], by (refine ⟨?_, ?_, ?_⟩ <;> simp [fitT, fit1, fitH, fitB, emptyB, rn, lk, AV.ren, AV.ren.renL, Blk.ren, blkIds, blkPids, AV.ids, AV.ids.idsL, AV.pids, AV.pids.pidsL, Blk.there]), by simp [keepIds, rn, List.range, List.range.loop]⟩
  · cases hg

/-! a frame is drawn -/
structure FrameV where
  to : Int
  frm : Int
  kind : Int
  data : List UInt8
  p : Int
def frameP (xs : List UInt8) (p : Int) : Int := p + 1 + 1 + 1 + 1 + 2 * ((pickV xs (p + 1 + 1 + 1) 9).toNat : Int)
def oneIf (n : Int) : Int := if 0 < n then 1 else 0
theorem oneIf_le (n : Int) : 0 ≤ oneIf n ∧ oneIf n ≤ 1 := by unfold oneIf; split <;> omega
def frameV (xs : List UInt8) (p n : Int) : FrameV :=
  if (decide (0 < n) && pickV xs (frameP xs p + 1) n == n - 1) = true then
    if pickV xs (frameP xs p + 1 + oneIf n) 4 = 0 then ⟨IntKind.i64.wrap (256 - IntKind.i64.wrap (pickV xs (frameP xs p + 1 + oneIf n + 1) 2 * 300)), pickV xs (p + 1) 4, pickV xs (p + 1 + 1) 5, bytesV xs (p + 1 + 1 + 1 + 1) (pickV xs (p + 1 + 1 + 1) 9).toNat, frameP xs p + 1 + oneIf n + 1 + 1⟩
    else if pickV xs (frameP xs p + 1 + oneIf n) 4 = 1 then ⟨if pickV xs (frameP xs p) 3 = 0 then 255 else pickV xs p 4, 255, pickV xs (p + 1 + 1) 5, bytesV xs (p + 1 + 1 + 1 + 1) (pickV xs (p + 1 + 1 + 1) 9).toNat, frameP xs p + 1 + oneIf n + 1⟩
    else if pickV xs (frameP xs p + 1 + oneIf n) 4 = 2 then ⟨if pickV xs (frameP xs p) 3 = 0 then 255 else pickV xs p 4, pickV xs (p + 1) 4, 256, bytesV xs (p + 1 + 1 + 1 + 1) (pickV xs (p + 1 + 1 + 1) 9).toNat, frameP xs p + 1 + oneIf n + 1⟩
    else ⟨if pickV xs (frameP xs p) 3 = 0 then 255 else pickV xs p 4, pickV xs (p + 1) 4, pickV xs (p + 1 + 1) 5, List.replicate 65 0, frameP xs p + 1 + oneIf n + 1⟩
  else ⟨if pickV xs (frameP xs p) 3 = 0 then 255 else pickV xs p 4, pickV xs (p + 1) 4, pickV xs (p + 1 + 1) 5, bytesV xs (p + 1 + 1 + 1 + 1) (pickV xs (p + 1 + 1 + 1) 9).toNat, frameP xs p + 1 + oneIf n⟩
theorem rowsOf_zero (k : Nat) : rowsOfBytes (List.replicate k 0) = List.replicate k [.v (.int .u8 0)] := by simp [rowsOfBytes]
def g_frame : OC := fun args B0 => match args, B0 with
  | [.ptr r o, .v (.int .i64 n)], [.var T [.l 1 rows, .v (.int .i64 p)]] => some (T = 91 ∧ r = 0 ∧ o = 0 ∧ (∃ xs, rows = rowsOfBytes xs ∧ xs.length ≤ 2000) ∧ 0 ≤ p ∧ p < 100000000000 ∧ 0 ≤ n ∧ n ≤ 1000000,
      .agg [.v (.int .i64 (frameV (bytesOfRows rows) p n).to), .v (.int .i64 (frameV (bytesOfRows rows) p n).frm), .v (.int .i64 (frameV (bytesOfRows rows) p n).kind), .own 1], [.var T [.l 1 rows, .v (.int .i64 (frameV (bytesOfRows rows) p n).p)]], [.sl 5 1 (rowsOfBytes (frameV (bytesOfRows rows) p n).data)])
  | _, _ => none
set_option maxRecDepth 100000 in
set_option maxHeartbeats 1000000 in
theorem frame_ok : OwnOk Try.prog 50 g_frame := by
  refine OwnOk.of_vc (G := reads) reads_ok mixed Try.func50 (by kernel_rfl) rfl ?_
  intro args B0 cnd r B1 bs hg hc hlive
  unfold g_frame at hg
  split at hg
  · rename_i r o n T rows p
    cases hg
    obtain ⟨rfl, rfl, rfl, ⟨xs, rfl, hl⟩, hp0, hp1, hn0, hn1⟩ := hc
    rw [bytesOf_rows]
    refine ⟨⟨by simp [likeBs, likeB], by simp [Blk.liveB, blkIds, AV.ids.idsL, AV.ids], by simp [AV.ids, AV.ids.idsL]⟩, _, rfl, fun w Z s vs h => h, ?_⟩
    clear hlive
    have hx : (∃ ys, rowsOfBytes xs = rowsOfBytes ys ∧ ys.length ≤ 2000) = True := eq_true ⟨xs, rfl, hl⟩
    have k9 := pickV_nonneg xs (p + 1 + 1 + 1) 9 (by omega)
    have k9' := pickV_lt xs (p + 1 + 1 + 1) 9 (by omega)
    obtain ⟨q, hq⟩ : ∃ q, q = frameP xs p := ⟨_, rfl⟩
    obtain ⟨e, he⟩ : ∃ e, e = oneIf n := ⟨_, rfl⟩
    have be := oneIf_le n
    rw [← he] at be
    have hq' : p + 1 + 1 + 1 + 1 + 2 * ((pickV xs (p + 1 + 1 + 1) 9).toNat : Int) = q := hq.symm
    have he' : (if 0 < n then (1 : Int) else 0) = e := he.symm
    have bq : p ≤ q ∧ q < p + 30 := by rw [← hq']; omega
    simp (maxSteps := 3000000) only [Try.f50, reads, g_pick, g_odd, g_bytes, bytesOf_rows, ty_sz2, ty_st2, ty_cell2, ty_ck2, ty_inf2, ty_sz3, ty_st3, ty_cell3, ty_ck3, ty_inf3, ty_sz4, ty_st4, ty_cell4, ty_ck4, ty_inf4, ty_sz5, ty_st5, ty_cell5, ty_ck5, ty_inf5, ty_sz9, ty_st9, ty_cell9, ty_ck9, ty_inf9, ty_sz12, ty_st12, ty_cell12, ty_ck12, ty_inf12, ty_sz21, ty_st21, ty_cell21, ty_ck21, ty_inf21, ty_sz22, ty_st22, ty_cell22, ty_ck22, ty_inf22, ty_sz23, ty_st23, ty_cell23, ty_ck23, ty_inf23, ty_eq23, ty_f23_0, ty_f23_1, ty_f23_2, ty_f23_3, ty_sz24, ty_st24, ty_cell24, ty_ck24, ty_inf24, ty_eq24, ty_f24_0, ty_f24_1, ty_f24_2, ty_f24_3, ty_sz35, ty_st35, ty_cell35, ty_ck35, ty_inf35, ty_eq35, ty_f35_0, ty_f35_1, ty_f35_2, ty_f35_3, ty_sz36, ty_st36, ty_cell36, ty_ck36, ty_inf36, ty_eq36, ty_f36_0, ty_f36_1, ty_f36_2, ty_f36_3, ty_sz38, ty_st38, ty_cell38, ty_ck38, ty_inf38, ty_eq38, ty_f38_0, ty_f38_1, ty_f38_2, ty_f38_3, ty_sz51, ty_st51, ty_cell51, ty_ck51, ty_inf51, ty_sz52, ty_st52, ty_cell52, ty_ck52, ty_inf52, ty_sz53, ty_st53, ty_cell53, ty_ck53, ty_inf53, ty_eq53, ty_f53_0, ty_f53_1, ty_sz54, ty_st54, ty_cell54, ty_ck54, ty_inf54, ty_eq54, ty_f54_0, ty_f54_1, ty_sz57, ty_st57, ty_cell57, ty_ck57, ty_inf57, ty_sz58, ty_st58, ty_cell58, ty_ck58, ty_inf58, ty_sz59, ty_st59, ty_cell59, ty_ck59, ty_inf59, ty_eq59, ty_f59_0, ty_f59_1, ty_sz60, ty_st60, ty_cell60, ty_ck60, ty_inf60, ty_eq60, ty_f60_0, ty_f60_1, ty_sz78, ty_st78, ty_cell78, ty_ck78, ty_inf78, ty_eq78, ty_f78_0, ty_f78_1, ty_f78_2, ty_sz79, ty_st79, ty_cell79, ty_ck79, ty_inf79, ty_eq79, ty_f79_0, ty_f79_1, ty_f79_2, ty_sz80, ty_st80, ty_cell80, ty_ck80, ty_inf80, ty_eq80, ty_f80_0, ty_f80_1, ty_sz81, ty_st81, ty_cell81, ty_ck81, ty_inf81, ty_eq81, ty_f81_0, ty_f81_1, ty_sz90, ty_st90, ty_cell90, ty_ck90, ty_inf90, ty_eq90, ty_f90_0, ty_f90_1, ty_sz91, ty_st91, ty_cell91, ty_ck91, ty_inf91, ty_eq91, ty_f91_0, ty_f91_1, ty_sz94, ty_st94, ty_cell94, ty_ck94, ty_inf94, ty_eq94, ty_f94_0, ty_f94_1, ty_sz96, ty_st96, ty_cell96, ty_ck96, ty_inf96, ty_eq96, ty_f96_0, ty_f96_1, ty_f96_2, ty_sz108, ty_st108, ty_cell108, ty_ck108, ty_inf108, ty_sz117, ty_st117, ty_cell117, ty_ck117, ty_inf117, Try.underlying2, Try.underlying3, Try.underlying4, Try.underlying5, Try.underlying9, Try.underlying12, Try.underlying21, Try.underlying22, Try.underlying23, Try.underlying24, Try.underlying35, Try.underlying36, Try.underlying38, Try.underlying51, Try.underlying52, Try.underlying53, Try.underlying54, Try.underlying57, Try.underlying58, Try.underlying59, Try.underlying60, Try.underlying78, Try.underlying79, Try.underlying80, Try.underlying81, Try.underlying90, Try.underlying91, Try.underlying94, Try.underlying96, Try.underlying108, Try.underlying117, e_skip, e_label, e_ret, e_exit, e_seq, e_cond, e_block, e_region, seqK_normal, seqK_ret, seqK_exit, blkK_normal, blkK_ret, blkK_exit, condK_some, regK_true, regK_false, e_nil, e_cons, gateK_go, gateK_skip, gateK_ask, pickK_some, exK_some, x_pick, x_move, x_assign, x_alloc, x_box, x_build, x_buildSlice, x_load, x_store, x_binOp, x_unOp, x_convert, x_makeSlice, x_slice, x_fieldAddr, x_field, x_indexAddr, x_extract, x_nilCheck, x_call, x_len, x_append, x_min, oMin, eqAVs, callK_some, done_ret, done_normal, doneO_ret, doneO_normal, endsO_one, endsO_nil, endsO_more, ownAbs, frzAbs, leafs, leafs.leafsL, uniq, idxOf, bk, zipB, Blk.liveB, gate_none, gate_some, gateS_none, gateS_some, gateV_bool, gateV_undef, boolOf, evA, putT, refn, fpD, oBin, oUn, upsl, upl, up, ups, lk, dstsOf, resL, resA, packA, oLoad, oStore, oAlloc, oBox, oBuild, oBuildSlice, oMake, oAppend, oIndexAddr, oFieldAddr, oField, oExtract, oNil, oSlice, oLen, oConvert, rowLoad, fillA, fillR, dk, dks, dkRows, frz, loOf, hiOf, lenOf, rowsOf, nilV, lenV, putAt, views, viewsOk, CK.av, CK.ok, AV.cells, AV.one, Value.oneCell', Value.cells, pureAbs, nrm, nrm.nrmL, hpAt, sh, AV.ren, AV.ren.renL, Blk.ren, fpOf, foot, blkIds, AV.ids, AV.ids.idsL, Op.operands, Call.operands, List.find?_cons, List.find?_nil, Nat.reduceBEq, beq_self_eq_true, List.map_cons, List.map_nil, List.getD_cons_zero, List.getD_cons_succ, List.getD_nil, List.set_cons_zero, List.set_cons_succ, List.length_cons, List.length_nil, List.replicate, List.cons_append, List.nil_append, List.append_nil, List.getElem?_cons_zero, List.getElem?_cons_succ, List.getElem?_toArray, List.getElem?_nil, List.take_zero, List.take_succ_cons, List.take_nil, List.drop_zero, List.drop_succ_cons, List.drop_nil, List.headD_cons, List.tail_cons, List.flatten_cons, List.flatten_nil, List.flatMap_cons, List.flatMap_nil, List.toList_toArray, Array.toList_append, Option.bind_some, Option.map_some, Option.map_none, Option.isSome_some, List.all_nil, List.all_cons, Bool.and_self, Bool.and_true, Bool.true_and, true_and, and_true, ↓reduceIte, List.size_toArray, Bool.false_eq_true, Bool.true_eq_false, false_implies, true_implies, Bool.not_true, Bool.not_false, and_self, implies_true, decide_true, decide_false, Nat.reduceAdd, Nat.reduceMul, Nat.reduceLT, Nat.reduceSub, Nat.reduceLeDiff, Nat.reduceEqDiff, eq_self, ne_eq, not_false_eq_true, false_and, and_false, reduceCtorEq, List.filter_nil, List.filter_cons, List.isEmpty_nil, List.isEmpty_cons, bne_self_eq_false, Nat.reduceBneDiff, Nat.lt_add_one, Nat.zero_lt_succ, List.append_assoc, Nat.zero_le, and_self_iff, Int.reduceToNat, rowsOf_len, row_toI, row_nil, row_head, decide_eq_true_eq, decide_eq_false_iff_not, beq_iff_eq, Int.toNat_natCast, hx, hq', he']
    simp only [frameV, ← hq, ← he]
    refine ⟨by omega, by omega, by omega, by omega, by omega, by omega, ?_⟩
    by_cases ht : pickV xs q 3 = 0 <;> simp only [ht, ↓reduceIte] <;> refine ⟨by omega, ?_⟩
    all_goals
      by_cases ho : (decide (0 < n) && pickV xs (q + 1) n == n - 1) = true
      · simp only [ho, ↓reduceIte]
        refine ⟨by omega, ?_⟩
        by_cases h0 : pickV xs (q + 1 + e) 4 = 0
        · simp only [h0, ↓reduceIte]
          exact ⟨by omega, [(1, some 161)], by (refine ⟨?_, ?_, ?_⟩ <;> simp [fitT, fit1, fitH, fitB, emptyB, rn, lk, AV.ren, AV.ren.renL, Blk.ren, blkIds, blkPids, AV.ids, AV.ids.idsL, AV.pids, AV.pids.pidsL, Blk.there]), by simp [keepIds, rn, List.range, List.range.loop]⟩
        · simp only [h0, ↓reduceIte]
          by_cases h1 : pickV xs (q + 1 + e) 4 = 1
          · simp only [h1, ↓reduceIte]
            exact ⟨[(1, some 161)], by (refine ⟨?_, ?_, ?_⟩ <;> simp [fitT, fit1, fitH, fitB, emptyB, rn, lk, AV.ren, AV.ren.renL, Blk.ren, blkIds, blkPids, AV.ids, AV.ids.idsL, AV.pids, AV.pids.pidsL, Blk.there]), by simp [keepIds, rn, List.range, List.range.loop]⟩
          · simp only [h1, ↓reduceIte]
            by_cases h2 : pickV xs (q + 1 + e) 4 = 2
            · simp only [h2, ↓reduceIte]
              exact ⟨[(1, some 161)], by (refine ⟨?_, ?_, ?_⟩ <;> simp [fitT, fit1, fitH, fitB, emptyB, rn, lk, AV.ren, AV.ren.renL, Blk.ren, blkIds, blkPids, AV.ids, AV.ids.idsL, AV.pids, AV.pids.pidsL, Blk.there]), by simp [keepIds, rn, List.range, List.range.loop]⟩
            · simp only [h2, ↓reduceIte, rowsOf_zero]
              first
              | (refine ⟨by omega, [(1, some 481)], ?_, by simp [keepIds, rn, List.range, List.range.loop]⟩; (refine ⟨?_, ?_, ?_⟩ <;> simp [fitT, fit1, fitH, fitB, emptyB, rn, lk, AV.ren, AV.ren.renL, Blk.ren, blkIds, blkPids, AV.ids, AV.ids.idsL, AV.pids, AV.pids.pidsL, Blk.there]); done)
              | (refine ⟨by omega, [(1, some 449)], ?_, by simp [keepIds, rn, List.range, List.range.loop]⟩; (refine ⟨?_, ?_, ?_⟩ <;> simp [fitT, fit1, fitH, fitB, emptyB, rn, lk, AV.ren, AV.ren.renL, Blk.ren, blkIds, blkPids, AV.ids, AV.ids.idsL, AV.pids, AV.pids.pidsL, Blk.there]); done)
      · simp only [ho, ↓reduceIte, Bool.false_eq_true]
        exact ⟨[(1, some 161)], by (refine ⟨?_, ?_, ?_⟩ <;> simp [fitT, fit1, fitH, fitB, emptyB, rn, lk, AV.ren, AV.ren.renL, Blk.ren, blkIds, blkPids, AV.ids, AV.ids.idsL, AV.pids, AV.pids.pidsL, Blk.there]), by simp [keepIds, rn, List.range, List.range.loop]⟩
  · cases hg
end Go.Proofs.Ytnnpijjdjdnffaa
