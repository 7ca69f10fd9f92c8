import Derived.Test.YtnnpijjdjdnffaaSl
import Derived.Test.YtnnpijjdjdnffaaSf
namespace Go.Proofs.Ytnnpijjdjdnffaa
open Go.RowKit
set_option linter.unusedSimpArgs false

/-! the draw of bytes of a frame, whole or not -/
def ffB (xs : List UInt8) : List UInt8 := fbV (frameV xs 0 0).to (frameV xs 0 0).frm (frameV xs 0 0).kind (frameV xs 0 0).data
def ffP (xs : List UInt8) : Int := (frameV xs 0 0).p
def g_drawFrameFrom : OC := fun args B0 => match args, B0 with
  | [.l _ rows], [] => if pickV ((bytesOfRows rows).take 2000) (ffP ((bytesOfRows rows).take 2000)) 5 = 1 then
        some (∃ xs, rows = rowsOfBytes xs, .sub 0 0 (pickV ((bytesOfRows rows).take 2000) (ffP ((bytesOfRows rows).take 2000) + 1) (ffB ((bytesOfRows rows).take 2000)).length).toNat, [], [.sl 5 1 (rowsOfBytes (ffB ((bytesOfRows rows).take 2000)))])
      else some (∃ xs, rows = rowsOfBytes xs, .own 0, [], [.sl 5 1 (rowsOfBytes (
        if pickV ((bytesOfRows rows).take 2000) (ffP ((bytesOfRows rows).take 2000)) 5 = 0 then (ffB ((bytesOfRows rows).take 2000)).set (pickV ((bytesOfRows rows).take 2000) (ffP ((bytesOfRows rows).take 2000) + 1) (ffB ((bytesOfRows rows).take 2000)).length).toNat (toU8 (pickV ((bytesOfRows rows).take 2000) (ffP ((bytesOfRows rows).take 2000) + 1 + 1) 256))
        else if pickV ((bytesOfRows rows).take 2000) (ffP ((bytesOfRows rows).take 2000)) 5 = 2 then ffB ((bytesOfRows rows).take 2000) ++ [0]
        else ffB ((bytesOfRows rows).take 2000)))])
  | _, _ => none
theorem frameV_zero (xs : List UInt8) (p : Int) (h0 : 0 ≤ p) (h : p < 100000000000) : frB (frameV xs p 0).to (frameV xs p 0).frm (frameV xs p 0).kind (frameV xs p 0).data.length = true := by
  have a1 := pickV_nonneg xs p 4 (by omega)
  have a2 := pickV_lt xs p 4 (by omega)
  have a3 := pickV_nonneg xs (p + 1) 4 (by omega)
  have a4 := pickV_lt xs (p + 1) 4 (by omega)
  have a5 := pickV_nonneg xs (p + 1 + 1) 5 (by omega)
  have a6 := pickV_lt xs (p + 1 + 1) 5 (by omega)
  have a7 := pickV_nonneg xs (p + 1 + 1 + 1) 9 (by omega)
  have a8 := pickV_lt xs (p + 1 + 1 + 1) 9 (by omega)
  unfold frameV
  rw [if_neg (by simp)]
  dsimp only
  simp only [frB, decide_eq_true_eq, bytesV_len]
  split <;> omega
theorem ffB_len (xs : List UInt8) : 6 ≤ (ffB xs).length ∧ (ffB xs).length ≤ 70 ∧ frFine (ffB xs) = true := by
  have h := frameV_zero xs 0 (by omega) (by omega)
  rcases fb_all (frameV xs 0 0).to (frameV xs 0 0).frm (frameV xs 0 0).kind (frameV xs 0 0).data with ⟨_, h2, _⟩ | ⟨h2, _⟩
  · have := fine_parts h2
    exact ⟨this.1, this.2.1, h2⟩
  · rw [h] at h2; cases h2
theorem rows_set (xs : List UInt8) (k : Nat) (v : Int) : (rowsOfBytes xs).set k (D.v (Value.int IntKind.u8 (IntKind.u8.wrap v)) :: List.drop 1 ((rowsOfBytes xs).getD k [])) = rowsOfBytes (xs.set k (toU8 v)) := by
  by_cases h : k < xs.length
  · rw [rowsOf_get _ _ h, ← toU8_val]
    simp only [rowsOfBytes, List.map_set, List.drop_succ_cons, List.drop_zero]
  · rw [List.set_eq_of_length_le (by rw [rowsOf_len]; omega), List.set_eq_of_length_le (by omega)]
def draws2 : List (FuncId × Abs) := [(51, ownAbs g_open), (50, ownAbs g_frame), (59, ownAbs g_pick), (18, pureAbs g_frameBytes)]
theorem draws2_ok : ∀ p ∈ draws2, CallOk Try.prog p.1 p.2 := by
  intro p hp
  simp only [draws2, List.mem_cons, List.not_mem_nil, or_false] at hp
  rcases hp with rfl | rfl | rfl | rfl
  · exact open_ok.call
  · exact frame_ok.call
  · exact pick_ok.call
  · exact specFrameBytes_ok.call
set_option maxRecDepth 100000 in
theorem drawFrameFrom_ok : OwnOk Try.prog 23 g_drawFrameFrom := by
  refine OwnOk.of_vc (G := draws2) draws2_ok mixed Try.func23 (by kernel_rfl) rfl ?_
  intro args B0 cnd r B1 bs hg hc hlive
  unfold g_drawFrameFrom at hg
  split at hg
  · rename_i sz rows
    have hbp := frameV_p ((bytesOfRows rows).take 2000) 0 0 (by omega) (by omega)
    by_cases h1 : pickV ((bytesOfRows rows).take 2000) (ffP ((bytesOfRows rows).take 2000)) 5 = 1
    · rw [if_pos h1] at hg
      cases hg
      obtain ⟨xs, rfl⟩ := hc
      rw [bytesOf_rows] at h1 hbp ⊢
      refine ⟨⟨trivial, by simp [Blk.liveB, blkIds, AV.ids.idsL, AV.ids], by simp [AV.ids]⟩, [.l 1 (rowsOfBytes xs)], rfl, fun w Z s vs h => CvL.ok (.cons (.l _ _ _ (rowsOf_w xs)) .nil) h, ?_⟩
      simp (maxSteps := 3000000) only [Try.f23, draws2, g_open, g_frame, g_pick, g_frameBytes, bytesOf_rows, ty_sz2, ty_st2, ty_cell2, ty_ck2, ty_inf2, ty_sz3, ty_st3, ty_cell3, ty_ck3, ty_inf3, ty_sz4, ty_st4, ty_cell4, ty_ck4, ty_inf4, ty_sz5, ty_st5, ty_cell5, ty_ck5, ty_inf5, ty_sz9, ty_st9, ty_cell9, ty_ck9, ty_inf9, ty_sz12, ty_st12, ty_cell12, ty_ck12, ty_inf12, ty_sz21, ty_st21, ty_cell21, ty_ck21, ty_inf21, ty_sz22, ty_st22, ty_cell22, ty_ck22, ty_inf22, ty_sz23, ty_st23, ty_cell23, ty_ck23, ty_inf23, ty_eq23, ty_f23_0, ty_f23_1, ty_f23_2, ty_f23_3, ty_sz24, ty_st24, ty_cell24, ty_ck24, ty_inf24, ty_eq24, ty_f24_0, ty_f24_1, ty_f24_2, ty_f24_3, ty_sz35, ty_st35, ty_cell35, ty_ck35, ty_inf35, ty_eq35, ty_f35_0, ty_f35_1, ty_f35_2, ty_f35_3, ty_sz36, ty_st36, ty_cell36, ty_ck36, ty_inf36, ty_eq36, ty_f36_0, ty_f36_1, ty_f36_2, ty_f36_3, ty_sz38, ty_st38, ty_cell38, ty_ck38, ty_inf38, ty_eq38, ty_f38_0, ty_f38_1, ty_f38_2, ty_f38_3, ty_sz51, ty_st51, ty_cell51, ty_ck51, ty_inf51, ty_sz52, ty_st52, ty_cell52, ty_ck52, ty_inf52, ty_sz53, ty_st53, ty_cell53, ty_ck53, ty_inf53, ty_eq53, ty_f53_0, ty_f53_1, ty_sz54, ty_st54, ty_cell54, ty_ck54, ty_inf54, ty_eq54, ty_f54_0, ty_f54_1, ty_sz57, ty_st57, ty_cell57, ty_ck57, ty_inf57, ty_sz58, ty_st58, ty_cell58, ty_ck58, ty_inf58, ty_sz59, ty_st59, ty_cell59, ty_ck59, ty_inf59, ty_eq59, ty_f59_0, ty_f59_1, ty_sz60, ty_st60, ty_cell60, ty_ck60, ty_inf60, ty_eq60, ty_f60_0, ty_f60_1, ty_sz78, ty_st78, ty_cell78, ty_ck78, ty_inf78, ty_eq78, ty_f78_0, ty_f78_1, ty_f78_2, ty_sz79, ty_st79, ty_cell79, ty_ck79, ty_inf79, ty_eq79, ty_f79_0, ty_f79_1, ty_f79_2, ty_sz80, ty_st80, ty_cell80, ty_ck80, ty_inf80, ty_eq80, ty_f80_0, ty_f80_1, ty_sz81, ty_st81, ty_cell81, ty_ck81, ty_inf81, ty_eq81, ty_f81_0, ty_f81_1, ty_sz90, ty_st90, ty_cell90, ty_ck90, ty_inf90, ty_eq90, ty_f90_0, ty_f90_1, ty_sz91, ty_st91, ty_cell91, ty_ck91, ty_inf91, ty_eq91, ty_f91_0, ty_f91_1, ty_sz94, ty_st94, ty_cell94, ty_ck94, ty_inf94, ty_eq94, ty_f94_0, ty_f94_1, ty_sz96, ty_st96, ty_cell96, ty_ck96, ty_inf96, ty_eq96, ty_f96_0, ty_f96_1, ty_f96_2, ty_sz108, ty_st108, ty_cell108, ty_ck108, ty_inf108, ty_sz117, ty_st117, ty_cell117, ty_ck117, ty_inf117, Try.underlying2, Try.underlying3, Try.underlying4, Try.underlying5, Try.underlying9, Try.underlying12, Try.underlying21, Try.underlying22, Try.underlying23, Try.underlying24, Try.underlying35, Try.underlying36, Try.underlying38, Try.underlying51, Try.underlying52, Try.underlying53, Try.underlying54, Try.underlying57, Try.underlying58, Try.underlying59, Try.underlying60, Try.underlying78, Try.underlying79, Try.underlying80, Try.underlying81, Try.underlying90, Try.underlying91, Try.underlying94, Try.underlying96, Try.underlying108, Try.underlying117, e_skip, e_label, e_ret, e_exit, e_seq, e_cond, e_block, e_region, seqK_normal, seqK_ret, seqK_exit, blkK_normal, blkK_ret, blkK_exit, condK_some, regK_true, regK_false, e_nil, e_cons, gateK_go, gateK_skip, gateK_ask, pickK_some, exK_some, x_pick, x_move, x_assign, x_alloc, x_box, x_build, x_buildSlice, x_load, x_store, x_binOp, x_unOp, x_convert, x_makeSlice, x_slice, x_fieldAddr, x_field, x_indexAddr, x_extract, x_nilCheck, x_call, x_len, x_append, x_min, oMin, eqAVs, callK_some, done_ret, done_normal, doneO_ret, doneO_normal, endsO_one, endsO_nil, endsO_more, ownAbs, frzAbs, leafs, leafs.leafsL, uniq, idxOf, bk, zipB, Blk.liveB, gate_none, gate_some, gateS_none, gateS_some, gateV_bool, gateV_undef, boolOf, evA, putT, refn, fpD, oBin, oUn, upsl, upl, up, ups, lk, dstsOf, resL, resA, packA, oLoad, oStore, oAlloc, oBox, oBuild, oBuildSlice, oMake, oAppend, oIndexAddr, oFieldAddr, oField, oExtract, oNil, oSlice, oLen, oConvert, rowLoad, fillA, fillR, dk, dks, dkRows, frz, loOf, hiOf, lenOf, rowsOf, nilV, lenV, putAt, views, viewsOk, CK.av, CK.ok, AV.cells, AV.one, Value.oneCell', Value.cells, pureAbs, nrm, nrm.nrmL, hpAt, sh, AV.ren, AV.ren.renL, Blk.ren, fpOf, foot, blkIds, AV.ids, AV.ids.idsL, Op.operands, Call.operands, List.find?_cons, List.find?_nil, Nat.reduceBEq, beq_self_eq_true, List.map_cons, List.map_nil, List.getD_cons_zero, List.getD_cons_succ, List.getD_nil, List.set_cons_zero, List.set_cons_succ, List.length_cons, List.length_nil, List.replicate, List.cons_append, List.nil_append, List.append_nil, List.getElem?_cons_zero, List.getElem?_cons_succ, List.getElem?_toArray, List.getElem?_nil, List.take_zero, List.take_succ_cons, List.take_nil, List.drop_zero, List.drop_succ_cons, List.drop_nil, List.headD_cons, List.tail_cons, List.flatten_cons, List.flatten_nil, List.flatMap_cons, List.flatMap_nil, List.toList_toArray, Array.toList_append, Option.bind_some, Option.map_some, Option.map_none, Option.isSome_some, List.all_nil, List.all_cons, Bool.and_self, Bool.and_true, Bool.true_and, true_and, and_true, ↓reduceIte, List.size_toArray, Bool.false_eq_true, Bool.true_eq_false, false_implies, true_implies, Bool.not_true, Bool.not_false, and_self, implies_true, decide_true, decide_false, Nat.reduceAdd, Nat.reduceMul, Nat.reduceLT, Nat.reduceSub, Nat.reduceLeDiff, Nat.reduceEqDiff, eq_self, ne_eq, not_false_eq_true, false_and, and_false, reduceCtorEq, List.filter_nil, List.filter_cons, List.isEmpty_nil, List.isEmpty_cons, bne_self_eq_false, Nat.reduceBneDiff, Nat.lt_add_one, Nat.zero_lt_succ, List.append_assoc, Nat.zero_le, and_self_iff, Int.reduceToNat, rowsOf_len, row_toI, row_nil, row_head, decide_eq_true_eq, decide_eq_false_iff_not, beq_iff_eq, Int.toNat_natCast]
      generalize hX : List.take 2000 xs = X at h1 hbp ⊢
      have hl : X.length ≤ 2000 := by rw [← hX, List.length_take]; omega
      have hb := ffB_len X
      have e1 : fbV (frameV X 0 0).to (frameV X 0 0).frm (frameV X 0 0).kind (frameV X 0 0).data = ffB X := rfl
      have e2 : (frameV X 0 0).p = ffP X := rfl
      simp only [e1, e2] at hbp ⊢
      generalize ffB X = B at hb ⊢
      generalize ffP X = q at h1 hbp ⊢
      have m1 := pickV_nonneg X (q + 1) B.length (by omega)
      have m2 := pickV_lt X (q + 1) B.length (by omega)
      generalize pickV X (q + 1) B.length = m at m1 m2 ⊢
      rw [if_neg (by omega), if_pos h1]
      refine ⟨⟨_, rfl⟩, ⟨⟨_, rfl, hl⟩, by omega, by omega, by omega, by omega⟩, ⟨_, rfl⟩, ⟨⟨_, rfl, hl⟩, by omega, by omega⟩, ⟨⟨_, rfl, hl⟩, by omega, by omega⟩, by omega, [(0, some 96)], ?_, by simp [keepIds, rn, List.range, List.range.loop]⟩
      (refine ⟨?_, ?_, ?_⟩ <;> simp [fitT, fit1, fitH, fitB, emptyB, rn, lk, AV.ren, AV.ren.renL, Blk.ren, blkIds, blkPids, AV.ids, AV.ids.idsL, AV.pids, AV.pids.pidsL, Blk.there])
    · rw [if_neg h1] at hg
      cases hg
      obtain ⟨xs, rfl⟩ := hc
      rw [bytesOf_rows] at h1 hbp ⊢
      refine ⟨⟨trivial, by simp [Blk.liveB, blkIds, AV.ids.idsL, AV.ids], by simp [AV.ids]⟩, [.l 1 (rowsOfBytes xs)], rfl, fun w Z s vs h => CvL.ok (.cons (.l _ _ _ (rowsOf_w xs)) .nil) h, ?_⟩
      simp (maxSteps := 3000000) only [Try.f23, draws2, g_open, g_frame, g_pick, g_frameBytes, bytesOf_rows, ty_sz2, ty_st2, ty_cell2, ty_ck2, ty_inf2, ty_sz3, ty_st3, ty_cell3, ty_ck3, ty_inf3, ty_sz4, ty_st4, ty_cell4, ty_ck4, ty_inf4, ty_sz5, ty_st5, ty_cell5, ty_ck5, ty_inf5, ty_sz9, ty_st9, ty_cell9, ty_ck9, ty_inf9, ty_sz12, ty_st12, ty_cell12, ty_ck12, ty_inf12, ty_sz21, ty_st21, ty_cell21, ty_ck21, ty_inf21, ty_sz22, ty_st22, ty_cell22, ty_ck22, ty_inf22, ty_sz23, ty_st23, ty_cell23, ty_ck23, ty_inf23, ty_eq23, ty_f23_0, ty_f23_1, ty_f23_2, ty_f23_3, ty_sz24, ty_st24, ty_cell24, ty_ck24, ty_inf24, ty_eq24, ty_f24_0, ty_f24_1, ty_f24_2, ty_f24_3, ty_sz35, ty_st35, ty_cell35, ty_ck35, ty_inf35, ty_eq35, ty_f35_0, ty_f35_1, ty_f35_2, ty_f35_3, ty_sz36, ty_st36, ty_cell36, ty_ck36, ty_inf36, ty_eq36, ty_f36_0, ty_f36_1, ty_f36_2, ty_f36_3, ty_sz38, ty_st38, ty_cell38, ty_ck38, ty_inf38, ty_eq38, ty_f38_0, ty_f38_1, ty_f38_2, ty_f38_3, ty_sz51, ty_st51, ty_cell51, ty_ck51, ty_inf51, ty_sz52, ty_st52, ty_cell52, ty_ck52, ty_inf52, ty_sz53, ty_st53, ty_cell53, ty_ck53, ty_inf53, ty_eq53, ty_f53_0, ty_f53_1, ty_sz54, ty_st54, ty_cell54, ty_ck54, ty_inf54, ty_eq54, ty_f54_0, ty_f54_1, ty_sz57, ty_st57, ty_cell57, ty_ck57, ty_inf57, ty_sz58, ty_st58, ty_cell58, ty_ck58, ty_inf58, ty_sz59, ty_st59, ty_cell59, ty_ck59, ty_inf59, ty_eq59, ty_f59_0, ty_f59_1, ty_sz60, ty_st60, ty_cell60, ty_ck60, ty_inf60, ty_eq60, ty_f60_0, ty_f60_1, ty_sz78, ty_st78, ty_cell78, ty_ck78, ty_inf78, ty_eq78, ty_f78_0, ty_f78_1, ty_f78_2, ty_sz79, ty_st79, ty_cell79, ty_ck79, ty_inf79, ty_eq79, ty_f79_0, ty_f79_1, ty_f79_2, ty_sz80, ty_st80, ty_cell80, ty_ck80, ty_inf80, ty_eq80, ty_f80_0, ty_f80_1, ty_sz81, ty_st81, ty_cell81, ty_ck81, ty_inf81, ty_eq81, ty_f81_0, ty_f81_1, ty_sz90, ty_st90, ty_cell90, ty_ck90, ty_inf90, ty_eq90, ty_f90_0, ty_f90_1, ty_sz91, ty_st91, ty_cell91, ty_ck91, ty_inf91, ty_eq91, ty_f91_0, ty_f91_1, ty_sz94, ty_st94, ty_cell94, ty_ck94, ty_inf94, ty_eq94, ty_f94_0, ty_f94_1, ty_sz96, ty_st96, ty_cell96, ty_ck96, ty_inf96, ty_eq96, ty_f96_0, ty_f96_1, ty_f96_2, ty_sz108, ty_st108, ty_cell108, ty_ck108, ty_inf108, ty_sz117, ty_st117, ty_cell117, ty_ck117, ty_inf117, Try.underlying2, Try.underlying3, Try.underlying4, Try.underlying5, Try.underlying9, Try.underlying12, Try.underlying21, Try.underlying22, Try.underlying23, Try.underlying24, Try.underlying35, Try.underlying36, Try.underlying38, Try.underlying51, Try.underlying52, Try.underlying53, Try.underlying54, Try.underlying57, Try.underlying58, Try.underlying59, Try.underlying60, Try.underlying78, Try.underlying79, Try.underlying80, Try.underlying81, Try.underlying90, Try.underlying91, Try.underlying94, Try.underlying96, Try.underlying108, Try.underlying117, e_skip, e_label, e_ret, e_exit, e_seq, e_cond, e_block, e_region, seqK_normal, seqK_ret, seqK_exit, blkK_normal, blkK_ret, blkK_exit, condK_some, regK_true, regK_false, e_nil, e_cons, gateK_go, gateK_skip, gateK_ask, pickK_some, exK_some, x_pick, x_move, x_assign, x_alloc, x_box, x_build, x_buildSlice, x_load, x_store, x_binOp, x_unOp, x_convert, x_makeSlice, x_slice, x_fieldAddr, x_field, x_indexAddr, x_extract, x_nilCheck, x_call, x_len, x_append, x_min, oMin, eqAVs, callK_some, done_ret, done_normal, doneO_ret, doneO_normal, endsO_one, endsO_nil, endsO_more, ownAbs, frzAbs, leafs, leafs.leafsL, uniq, idxOf, bk, zipB, Blk.liveB, gate_none, gate_some, gateS_none, gateS_some, gateV_bool, gateV_undef, boolOf, evA, putT, refn, fpD, oBin, oUn, upsl, upl, up, ups, lk, dstsOf, resL, resA, packA, oLoad, oStore, oAlloc, oBox, oBuild, oBuildSlice, oMake, oAppend, oIndexAddr, oFieldAddr, oField, oExtract, oNil, oSlice, oLen, oConvert, rowLoad, fillA, fillR, dk, dks, dkRows, frz, loOf, hiOf, lenOf, rowsOf, nilV, lenV, putAt, views, viewsOk, CK.av, CK.ok, AV.cells, AV.one, Value.oneCell', Value.cells, pureAbs, nrm, nrm.nrmL, hpAt, sh, AV.ren, AV.ren.renL, Blk.ren, fpOf, foot, blkIds, AV.ids, AV.ids.idsL, Op.operands, Call.operands, List.find?_cons, List.find?_nil, Nat.reduceBEq, beq_self_eq_true, List.map_cons, List.map_nil, List.getD_cons_zero, List.getD_cons_succ, List.getD_nil, List.set_cons_zero, List.set_cons_succ, List.length_cons, List.length_nil, List.replicate, List.cons_append, List.nil_append, List.append_nil, List.getElem?_cons_zero, List.getElem?_cons_succ, List.getElem?_toArray, List.getElem?_nil, List.take_zero, List.take_succ_cons, List.take_nil, List.drop_zero, List.drop_succ_cons, List.drop_nil, List.headD_cons, List.tail_cons, List.flatten_cons, List.flatten_nil, List.flatMap_cons, List.flatMap_nil, List.toList_toArray, Array.toList_append, Option.bind_some, Option.map_some, Option.map_none, Option.isSome_some, List.all_nil, List.all_cons, Bool.and_self, Bool.and_true, Bool.true_and, true_and, and_true, ↓reduceIte, List.size_toArray, Bool.false_eq_true, Bool.true_eq_false, false_implies, true_implies, Bool.not_true, Bool.not_false, and_self, implies_true, decide_true, decide_false, Nat.reduceAdd, Nat.reduceMul, Nat.reduceLT, Nat.reduceSub, Nat.reduceLeDiff, Nat.reduceEqDiff, eq_self, ne_eq, not_false_eq_true, false_and, and_false, reduceCtorEq, List.filter_nil, List.filter_cons, List.isEmpty_nil, List.isEmpty_cons, bne_self_eq_false, Nat.reduceBneDiff, Nat.lt_add_one, Nat.zero_lt_succ, List.append_assoc, Nat.zero_le, and_self_iff, Int.reduceToNat, rowsOf_len, row_toI, row_nil, row_head, decide_eq_true_eq, decide_eq_false_iff_not, beq_iff_eq, Int.toNat_natCast]
      generalize hX : List.take 2000 xs = X at h1 hbp ⊢
      have hl : X.length ≤ 2000 := by rw [← hX, List.length_take]; omega
      have hb := ffB_len X
      have e1 : fbV (frameV X 0 0).to (frameV X 0 0).frm (frameV X 0 0).kind (frameV X 0 0).data = ffB X := rfl
      have e2 : (frameV X 0 0).p = ffP X := rfl
      simp only [e1, e2] at hbp ⊢
      generalize ffB X = B at hb ⊢
      generalize ffP X = q at h1 hbp ⊢
      have m1 := pickV_nonneg X (q + 1) B.length (by omega)
      have m2 := pickV_lt X (q + 1) B.length (by omega)
      generalize pickV X (q + 1) B.length = m at m1 m2 ⊢
      by_cases h0 : pickV X q 5 = 0
      · rw [if_pos h0, if_pos h0]
        refine ⟨⟨_, rfl⟩, ⟨⟨_, rfl, hl⟩, by omega, by omega, by omega, by omega⟩, ⟨_, rfl⟩, ⟨⟨_, rfl, hl⟩, by omega, by omega⟩, ⟨⟨_, rfl, hl⟩, by omega, by omega⟩, ⟨⟨_, rfl, hl⟩, by omega, by omega⟩, by omega, by omega, [(0, some 96)], ?_, by simp [keepIds, rn, List.range, List.range.loop]⟩
        rw [rows_set]
        (refine ⟨?_, ?_, ?_⟩ <;> simp [fitT, fit1, fitH, fitB, emptyB, rn, lk, AV.ren, AV.ren.renL, Blk.ren, blkIds, blkPids, AV.ids, AV.ids.idsL, AV.pids, AV.pids.pidsL, Blk.there])
      · rw [if_neg h0, if_neg h1, if_neg h0]
        by_cases h2 : pickV X q 5 = 2
        · rw [if_pos h2, if_pos h2]
          refine ⟨⟨_, rfl⟩, ⟨⟨_, rfl, hl⟩, by omega, by omega, by omega, by omega⟩, ⟨_, rfl⟩, ⟨⟨_, rfl, hl⟩, by omega, by omega⟩, ⟨by omega, by omega, by simp⟩, [(0, some 288)], ?_, by simp [keepIds, rn, List.range, List.range.loop]⟩
          rw [← rowsOf_app, show rowsOfBytes [0] = [[D.v (Value.int IntKind.u8 0)]] from rfl]
          (refine ⟨?_, ?_, ?_⟩ <;> simp [fitT, fit1, fitH, fitB, emptyB, rn, lk, AV.ren, AV.ren.renL, Blk.ren, blkIds, blkPids, AV.ids, AV.ids.idsL, AV.pids, AV.pids.pidsL, Blk.there])
        · rw [if_neg h2, if_neg h2]
          refine ⟨⟨_, rfl⟩, ⟨⟨_, rfl, hl⟩, by omega, by omega, by omega, by omega⟩, ⟨_, rfl⟩, ⟨⟨_, rfl, hl⟩, by omega, by omega⟩, [(0, some 96)], ?_, by simp [keepIds, rn, List.range, List.range.loop]⟩
          (refine ⟨?_, ?_, ?_⟩ <;> simp [fitT, fit1, fitH, fitB, emptyB, rn, lk, AV.ren, AV.ren.renL, Blk.ren, blkIds, blkPids, AV.ids, AV.ids.idsL, AV.pids, AV.pids.pidsL, Blk.there])
  · cases hg

/-! the law -/
theorem fine_cut {ys : List UInt8} (h : frFine ys = true) (k : Nat) (hk : k < ys.length) : frFine (ys.take k) = false := by
  rw [← Bool.not_eq_true]
  intro hc
  obtain ⟨h6, h70, _⟩ := fine_parts h
  obtain ⟨k6, k70, _⟩ := fine_parts hc
  have e1 := fine_third h
  have e2 := fine_third hc
  rw [List.length_take] at e2 k6 k70
  have e3 : (ys.take k).getD 3 0 = ys.getD 3 0 := by
    simp only [List.getD]
    rw [List.getElem?_take_of_lt (by omega)]
  rw [e3, e1] at e2
  have := u8_sub (by omega) (by omega) e2
  omega
def laws3 : List (FuncId × Abs) := [(23, ownAbs g_drawFrameFrom), (16, pureAbs g_frameBytes), (17, pureAbs g_sameBytes), (20, pureAbs g_alive), (21, pureAbs g_frameFrom), (24, pureAbs g_frameFrom), (22, pureAbs g_sameFrame)]
theorem laws3_ok : ∀ p ∈ laws3, CallOk Try.prog p.1 p.2 := by
  intro p hp
  simp only [laws3, List.mem_cons, List.not_mem_nil, or_false] at hp
  rcases hp with rfl | rfl | rfl | rfl | rfl | rfl | rfl
  · exact drawFrameFrom_ok.call
  · exact implFrameBytes_ok.call
  · exact sameBytes_ok.call
  · exact alive_ok.call
  · exact implFrameFrom_ok.call
  · exact specFrameFrom_ok.call
  · exact sameFrame_ok.call
set_option maxRecDepth 100000 in
theorem lawFrameFrom_ok : PureOk Try.prog 4 g_true := by
  refine PureOk.of_vc (G := laws3) laws3_ok mixed Try.func4 (by kernel_rfl) rfl ?_
  intro args cnd r bs hg hc
  unfold g_true at hg
  split at hg
  · rename_i sz rows
    cases hg
    obtain ⟨xs, rfl⟩ := hc
    refine ⟨⟨rfl, by simp, by simp [AV.ids]⟩, [.l 1 (rowsOfBytes xs)], rfl, fun w vs h => CvL.ok (.cons (.l _ _ _ (rowsOf_w xs)) .nil) h, ?_⟩
    by_cases h1 : pickV (List.take 2000 xs) (ffP (List.take 2000 xs)) 5 = 1
    · have hb := ffB_len (List.take 2000 xs)
      have hp : (ffP (List.take 2000 xs)) < 100 := by have := (frameV_p (List.take 2000 xs) 0 0 (by omega) (by omega)).2; unfold ffP; omega
      have m1 := pickV_nonneg (List.take 2000 xs) (ffP (List.take 2000 xs) + 1) (ffB (List.take 2000 xs)).length (by omega)
      have m2 := pickV_lt (List.take 2000 xs) (ffP (List.take 2000 xs) + 1) (ffB (List.take 2000 xs)).length (by omega)
      have hcut := fine_cut hb.2.2 (pickV (List.take 2000 xs) (ffP (List.take 2000 xs) + 1) (ffB (List.take 2000 xs)).length).toNat (by omega)
      simp (maxSteps := 3000000) only [Try.f4, laws3, g_drawFrameFrom, h1, g_frameBytes, g_sameBytes, g_alive, g_frameFrom, g_sameFrame, bytesOf_rows, rowsOf_len, rowsOf_take, hcut, ty_sz2, ty_st2, ty_cell2, ty_ck2, ty_inf2, ty_sz3, ty_st3, ty_cell3, ty_ck3, ty_inf3, ty_sz4, ty_st4, ty_cell4, ty_ck4, ty_inf4, ty_sz5, ty_st5, ty_cell5, ty_ck5, ty_inf5, ty_sz9, ty_st9, ty_cell9, ty_ck9, ty_inf9, ty_sz12, ty_st12, ty_cell12, ty_ck12, ty_inf12, ty_sz21, ty_st21, ty_cell21, ty_ck21, ty_inf21, ty_sz22, ty_st22, ty_cell22, ty_ck22, ty_inf22, ty_sz23, ty_st23, ty_cell23, ty_ck23, ty_inf23, ty_eq23, ty_f23_0, ty_f23_1, ty_f23_2, ty_f23_3, ty_sz24, ty_st24, ty_cell24, ty_ck24, ty_inf24, ty_eq24, ty_f24_0, ty_f24_1, ty_f24_2, ty_f24_3, ty_sz35, ty_st35, ty_cell35, ty_ck35, ty_inf35, ty_eq35, ty_f35_0, ty_f35_1, ty_f35_2, ty_f35_3, ty_sz36, ty_st36, ty_cell36, ty_ck36, ty_inf36, ty_eq36, ty_f36_0, ty_f36_1, ty_f36_2, ty_f36_3, ty_sz38, ty_st38, ty_cell38, ty_ck38, ty_inf38, ty_eq38, ty_f38_0, ty_f38_1, ty_f38_2, ty_f38_3, ty_sz51, ty_st51, ty_cell51, ty_ck51, ty_inf51, ty_sz52, ty_st52, ty_cell52, ty_ck52, ty_inf52, ty_sz53, ty_st53, ty_cell53, ty_ck53, ty_inf53, ty_eq53, ty_f53_0, ty_f53_1, ty_sz54, ty_st54, ty_cell54, ty_ck54, ty_inf54, ty_eq54, ty_f54_0, ty_f54_1, ty_sz57, ty_st57, ty_cell57, ty_ck57, ty_inf57, ty_sz58, ty_st58, ty_cell58, ty_ck58, ty_inf58, ty_sz59, ty_st59, ty_cell59, ty_ck59, ty_inf59, ty_eq59, ty_f59_0, ty_f59_1, ty_sz60, ty_st60, ty_cell60, ty_ck60, ty_inf60, ty_eq60, ty_f60_0, ty_f60_1, ty_sz78, ty_st78, ty_cell78, ty_ck78, ty_inf78, ty_eq78, ty_f78_0, ty_f78_1, ty_f78_2, ty_sz79, ty_st79, ty_cell79, ty_ck79, ty_inf79, ty_eq79, ty_f79_0, ty_f79_1, ty_f79_2, ty_sz80, ty_st80, ty_cell80, ty_ck80, ty_inf80, ty_eq80, ty_f80_0, ty_f80_1, ty_sz81, ty_st81, ty_cell81, ty_ck81, ty_inf81, ty_eq81, ty_f81_0, ty_f81_1, ty_sz90, ty_st90, ty_cell90, ty_ck90, ty_inf90, ty_eq90, ty_f90_0, ty_f90_1, ty_sz91, ty_st91, ty_cell91, ty_ck91, ty_inf91, ty_eq91, ty_f91_0, ty_f91_1, ty_sz94, ty_st94, ty_cell94, ty_ck94, ty_inf94, ty_eq94, ty_f94_0, ty_f94_1, ty_sz96, ty_st96, ty_cell96, ty_ck96, ty_inf96, ty_eq96, ty_f96_0, ty_f96_1, ty_f96_2, ty_sz108, ty_st108, ty_cell108, ty_ck108, ty_inf108, ty_sz117, ty_st117, ty_cell117, ty_ck117, ty_inf117, Try.underlying2, Try.underlying3, Try.underlying4, Try.underlying5, Try.underlying9, Try.underlying12, Try.underlying21, Try.underlying22, Try.underlying23, Try.underlying24, Try.underlying35, Try.underlying36, Try.underlying38, Try.underlying51, Try.underlying52, Try.underlying53, Try.underlying54, Try.underlying57, Try.underlying58, Try.underlying59, Try.underlying60, Try.underlying78, Try.underlying79, Try.underlying80, Try.underlying81, Try.underlying90, Try.underlying91, Try.underlying94, Try.underlying96, Try.underlying108, Try.underlying117, e_skip, e_label, e_ret, e_exit, e_seq, e_cond, e_block, e_region, seqK_normal, seqK_ret, seqK_exit, blkK_normal, blkK_ret, blkK_exit, condK_some, regK_true, regK_false, e_nil, e_cons, gateK_go, gateK_skip, gateK_ask, pickK_some, exK_some, x_pick, x_move, x_assign, x_alloc, x_box, x_build, x_buildSlice, x_load, x_store, x_binOp, x_unOp, x_convert, x_makeSlice, x_slice, x_fieldAddr, x_field, x_indexAddr, x_extract, x_nilCheck, x_call, x_len, x_append, x_min, oMin, eqAVs, callK_some, done_ret, done_normal, doneO_ret, doneO_normal, endsO_one, endsO_nil, endsO_more, ownAbs, frzAbs, leafs, leafs.leafsL, uniq, idxOf, bk, zipB, Blk.liveB, gate_none, gate_some, gateS_none, gateS_some, gateV_bool, gateV_undef, boolOf, evA, putT, refn, fpD, oBin, oUn, upsl, upl, up, ups, lk, dstsOf, resL, resA, packA, oLoad, oStore, oAlloc, oBox, oBuild, oBuildSlice, oMake, oAppend, oIndexAddr, oFieldAddr, oField, oExtract, oNil, oSlice, oLen, oConvert, rowLoad, fillA, fillR, dk, dks, dkRows, frz, loOf, hiOf, lenOf, rowsOf, nilV, lenV, putAt, views, viewsOk, CK.av, CK.ok, AV.cells, AV.one, Value.oneCell', Value.cells, pureAbs, nrm, nrm.nrmL, hpAt, sh, AV.ren, AV.ren.renL, Blk.ren, fpOf, foot, blkIds, AV.ids, AV.ids.idsL, Op.operands, Call.operands, List.find?_cons, List.find?_nil, Nat.reduceBEq, beq_self_eq_true, List.map_cons, List.map_nil, List.getD_cons_zero, List.getD_cons_succ, List.getD_nil, List.set_cons_zero, List.set_cons_succ, List.length_cons, List.length_nil, List.replicate, List.cons_append, List.nil_append, List.append_nil, List.getElem?_cons_zero, List.getElem?_cons_succ, List.getElem?_toArray, List.getElem?_nil, List.take_zero, List.take_succ_cons, List.take_nil, List.drop_zero, List.drop_succ_cons, List.drop_nil, List.headD_cons, List.tail_cons, List.flatten_cons, List.flatten_nil, List.flatMap_cons, List.flatMap_nil, List.toList_toArray, Array.toList_append, Option.bind_some, Option.map_some, Option.map_none, Option.isSome_some, List.all_nil, List.all_cons, Bool.and_self, Bool.and_true, Bool.true_and, true_and, and_true, ↓reduceIte, List.size_toArray, Bool.false_eq_true, Bool.true_eq_false, false_implies, true_implies, Bool.not_true, Bool.not_false, and_self, implies_true, decide_true, decide_false, Nat.reduceAdd, Nat.reduceMul, Nat.reduceLT, Nat.reduceSub, Nat.reduceLeDiff, Nat.reduceEqDiff, eq_self, ne_eq, not_false_eq_true, false_and, and_false, reduceCtorEq, List.filter_nil, List.filter_cons, List.isEmpty_nil, List.isEmpty_cons, bne_self_eq_false, Nat.reduceBneDiff, Nat.lt_add_one, Nat.zero_lt_succ, List.append_assoc, Nat.zero_le, and_self_iff, Int.reduceToNat, decide_eq_true_eq, decide_eq_false_iff_not, beq_iff_eq]
      split
      · (refine ⟨_, [], rfl, ⟨⟨⟨?_, rfl, rfl⟩, trivial⟩, by simp [hpAt, fitH], by simp [hpAt]⟩⟩; refine congrArg (fun b => AV.v (Value.bool b)) ?_; first | rfl | (rw [Bool.eq_iff_iff]; simp only [decide_eq_true_eq, frB, inZ, Bool.false_eq_true, beq_eq_false_iff_ne, beq_iff_eq, ne_eq, decide_eq_false_iff_not, Bool.not_eq_eq_eq_not, Bool.not_true, Bool.not_false, false_iff, iff_false, true_iff, iff_true] at *; omega))
      · refine ⟨⟨xs, rfl⟩, ⟨_, rfl, by rw [List.length_take]; omega⟩, ⟨_, rfl, by rw [List.length_take]; omega⟩, ?_⟩
        refine ⟨⟨_, rfl⟩, ?_⟩
        (refine ⟨_, [], rfl, ⟨⟨⟨?_, rfl, rfl⟩, trivial⟩, by simp [hpAt, fitH], by simp [hpAt]⟩⟩; refine congrArg (fun b => AV.v (Value.bool b)) ?_; first | rfl | (rw [Bool.eq_iff_iff]; simp only [decide_eq_true_eq, frB, inZ, Bool.false_eq_true, beq_eq_false_iff_ne, beq_iff_eq, ne_eq, decide_eq_false_iff_not, Bool.not_eq_eq_eq_not, Bool.not_true, Bool.not_false, false_iff, iff_false, true_iff, iff_true] at *; omega))
    · simp (maxSteps := 3000000) only [Try.f4, laws3, g_drawFrameFrom, h1, g_frameBytes, g_sameBytes, g_alive, g_frameFrom, g_sameFrame, bytesOf_rows, rowsOf_len, ty_sz2, ty_st2, ty_cell2, ty_ck2, ty_inf2, ty_sz3, ty_st3, ty_cell3, ty_ck3, ty_inf3, ty_sz4, ty_st4, ty_cell4, ty_ck4, ty_inf4, ty_sz5, ty_st5, ty_cell5, ty_ck5, ty_inf5, ty_sz9, ty_st9, ty_cell9, ty_ck9, ty_inf9, ty_sz12, ty_st12, ty_cell12, ty_ck12, ty_inf12, ty_sz21, ty_st21, ty_cell21, ty_ck21, ty_inf21, ty_sz22, ty_st22, ty_cell22, ty_ck22, ty_inf22, ty_sz23, ty_st23, ty_cell23, ty_ck23, ty_inf23, ty_eq23, ty_f23_0, ty_f23_1, ty_f23_2, ty_f23_3, ty_sz24, ty_st24, ty_cell24, ty_ck24, ty_inf24, ty_eq24, ty_f24_0, ty_f24_1, ty_f24_2, ty_f24_3, ty_sz35, ty_st35, ty_cell35, ty_ck35, ty_inf35, ty_eq35, ty_f35_0, ty_f35_1, ty_f35_2, ty_f35_3, ty_sz36, ty_st36, ty_cell36, ty_ck36, ty_inf36, ty_eq36, ty_f36_0, ty_f36_1, ty_f36_2, ty_f36_3, ty_sz38, ty_st38, ty_cell38, ty_ck38, ty_inf38, ty_eq38, ty_f38_0, ty_f38_1, ty_f38_2, ty_f38_3, ty_sz51, ty_st51, ty_cell51, ty_ck51, ty_inf51, ty_sz52, ty_st52, ty_cell52, ty_ck52, ty_inf52, ty_sz53, ty_st53, ty_cell53, ty_ck53, ty_inf53, ty_eq53, ty_f53_0, ty_f53_1, ty_sz54, ty_st54, ty_cell54, ty_ck54, ty_inf54, ty_eq54, ty_f54_0, ty_f54_1, ty_sz57, ty_st57, ty_cell57, ty_ck57, ty_inf57, ty_sz58, ty_st58, ty_cell58, ty_ck58, ty_inf58, ty_sz59, ty_st59, ty_cell59, ty_ck59, ty_inf59, ty_eq59, ty_f59_0, ty_f59_1, ty_sz60, ty_st60, ty_cell60, ty_ck60, ty_inf60, ty_eq60, ty_f60_0, ty_f60_1, ty_sz78, ty_st78, ty_cell78, ty_ck78, ty_inf78, ty_eq78, ty_f78_0, ty_f78_1, ty_f78_2, ty_sz79, ty_st79, ty_cell79, ty_ck79, ty_inf79, ty_eq79, ty_f79_0, ty_f79_1, ty_f79_2, ty_sz80, ty_st80, ty_cell80, ty_ck80, ty_inf80, ty_eq80, ty_f80_0, ty_f80_1, ty_sz81, ty_st81, ty_cell81, ty_ck81, ty_inf81, ty_eq81, ty_f81_0, ty_f81_1, ty_sz90, ty_st90, ty_cell90, ty_ck90, ty_inf90, ty_eq90, ty_f90_0, ty_f90_1, ty_sz91, ty_st91, ty_cell91, ty_ck91, ty_inf91, ty_eq91, ty_f91_0, ty_f91_1, ty_sz94, ty_st94, ty_cell94, ty_ck94, ty_inf94, ty_eq94, ty_f94_0, ty_f94_1, ty_sz96, ty_st96, ty_cell96, ty_ck96, ty_inf96, ty_eq96, ty_f96_0, ty_f96_1, ty_f96_2, ty_sz108, ty_st108, ty_cell108, ty_ck108, ty_inf108, ty_sz117, ty_st117, ty_cell117, ty_ck117, ty_inf117, Try.underlying2, Try.underlying3, Try.underlying4, Try.underlying5, Try.underlying9, Try.underlying12, Try.underlying21, Try.underlying22, Try.underlying23, Try.underlying24, Try.underlying35, Try.underlying36, Try.underlying38, Try.underlying51, Try.underlying52, Try.underlying53, Try.underlying54, Try.underlying57, Try.underlying58, Try.underlying59, Try.underlying60, Try.underlying78, Try.underlying79, Try.underlying80, Try.underlying81, Try.underlying90, Try.underlying91, Try.underlying94, Try.underlying96, Try.underlying108, Try.underlying117, e_skip, e_label, e_ret, e_exit, e_seq, e_cond, e_block, e_region, seqK_normal, seqK_ret, seqK_exit, blkK_normal, blkK_ret, blkK_exit, condK_some, regK_true, regK_false, e_nil, e_cons, gateK_go, gateK_skip, gateK_ask, pickK_some, exK_some, x_pick, x_move, x_assign, x_alloc, x_box, x_build, x_buildSlice, x_load, x_store, x_binOp, x_unOp, x_convert, x_makeSlice, x_slice, x_fieldAddr, x_field, x_indexAddr, x_extract, x_nilCheck, x_call, x_len, x_append, x_min, oMin, eqAVs, callK_some, done_ret, done_normal, doneO_ret, doneO_normal, endsO_one, endsO_nil, endsO_more, ownAbs, frzAbs, leafs, leafs.leafsL, uniq, idxOf, bk, zipB, Blk.liveB, gate_none, gate_some, gateS_none, gateS_some, gateV_bool, gateV_undef, boolOf, evA, putT, refn, fpD, oBin, oUn, upsl, upl, up, ups, lk, dstsOf, resL, resA, packA, oLoad, oStore, oAlloc, oBox, oBuild, oBuildSlice, oMake, oAppend, oIndexAddr, oFieldAddr, oField, oExtract, oNil, oSlice, oLen, oConvert, rowLoad, fillA, fillR, dk, dks, dkRows, frz, loOf, hiOf, lenOf, rowsOf, nilV, lenV, putAt, views, viewsOk, CK.av, CK.ok, AV.cells, AV.one, Value.oneCell', Value.cells, pureAbs, nrm, nrm.nrmL, hpAt, sh, AV.ren, AV.ren.renL, Blk.ren, fpOf, foot, blkIds, AV.ids, AV.ids.idsL, Op.operands, Call.operands, List.find?_cons, List.find?_nil, Nat.reduceBEq, beq_self_eq_true, List.map_cons, List.map_nil, List.getD_cons_zero, List.getD_cons_succ, List.getD_nil, List.set_cons_zero, List.set_cons_succ, List.length_cons, List.length_nil, List.replicate, List.cons_append, List.nil_append, List.append_nil, List.getElem?_cons_zero, List.getElem?_cons_succ, List.getElem?_toArray, List.getElem?_nil, List.take_zero, List.take_succ_cons, List.take_nil, List.drop_zero, List.drop_succ_cons, List.drop_nil, List.headD_cons, List.tail_cons, List.flatten_cons, List.flatten_nil, List.flatMap_cons, List.flatMap_nil, List.toList_toArray, Array.toList_append, Option.bind_some, Option.map_some, Option.map_none, Option.isSome_some, List.all_nil, List.all_cons, Bool.and_self, Bool.and_true, Bool.true_and, true_and, and_true, ↓reduceIte, List.size_toArray, Bool.false_eq_true, Bool.true_eq_false, false_implies, true_implies, Bool.not_true, Bool.not_false, and_self, implies_true, decide_true, decide_false, Nat.reduceAdd, Nat.reduceMul, Nat.reduceLT, Nat.reduceSub, Nat.reduceLeDiff, Nat.reduceEqDiff, eq_self, ne_eq, not_false_eq_true, false_and, and_false, reduceCtorEq, List.filter_nil, List.filter_cons, List.isEmpty_nil, List.isEmpty_cons, bne_self_eq_false, Nat.reduceBneDiff, Nat.lt_add_one, Nat.zero_lt_succ, List.append_assoc, Nat.zero_le, and_self_iff, Int.reduceToNat, decide_eq_true_eq, decide_eq_false_iff_not, beq_iff_eq]
      have hb := ffB_len (List.take 2000 xs)
      generalize hB : (if pickV (List.take 2000 xs) (ffP (List.take 2000 xs)) 5 = 0 then _ else _ : List UInt8) = B
      have hl : B.length ≤ 71 := by
        rw [← hB]
        split
        · rw [List.length_set]; omega
        · split
          · rw [List.length_append]; simp; omega
          · omega
      clear hB
      split
      · (refine ⟨_, [], rfl, ⟨⟨⟨?_, rfl, rfl⟩, trivial⟩, by simp [hpAt, fitH], by simp [hpAt]⟩⟩; refine congrArg (fun b => AV.v (Value.bool b)) ?_; first | rfl | (rw [Bool.eq_iff_iff]; simp only [decide_eq_true_eq, frB, inZ, Bool.false_eq_true, beq_eq_false_iff_ne, beq_iff_eq, ne_eq, decide_eq_false_iff_not, Bool.not_eq_eq_eq_not, Bool.not_true, Bool.not_false, false_iff, iff_false, true_iff, iff_true] at *; omega))
      · refine ⟨⟨xs, rfl⟩, ⟨_, rfl, by omega⟩, ⟨_, rfl, by omega⟩, ⟨_, rfl⟩, ?_⟩
        by_cases hf : frFine B = true
        · rw [if_neg (by simp [hf])]
          obtain ⟨h6, h70, he, _⟩ := fine_parts hf
          have w1 : IntKind.i64.wrap ((B.length : Int) - 1) = ((B.length - 1 : Nat) : Int) := by rw [wrap_id] <;> omega
          have e1 : rowsOfBytes B ++ [[D.v (Value.int IntKind.u8 0)]] = rowsOfBytes (B ++ [0]) := by rw [← rowsOf_app]; rfl
          have e2 : fbV (ffT B) (ffF B) (ffK B) (ffD B) = B := by
            rw [fbV_fr, ffT, ffF, ffK, ffD, if_pos hf, if_pos hf, if_pos hf, if_pos hf, he]
          simp only [w1, e1, e2, Int.toNat_natCast, rowsOf_take, bytesOf_rows, fine_less hf, fine_more hf, Bool.not_false, ↓reduceIte]
          refine ⟨by omega, ⟨by rw [rowsOf_len, List.length_take]; omega, by rw [rowsOf_len, List.length_take]; omega, rowsOf_w _⟩, ⟨_, rfl, by rw [List.length_take]; omega⟩, ⟨by omega, by omega, rowsOf_w _⟩, ⟨by omega, by omega, by simp⟩, ⟨_, rfl, by rw [List.length_append]; simp; omega⟩, ⟨_, rfl⟩, ⟨⟨_, rfl⟩, _, rfl⟩, ?_⟩
          (refine ⟨_, [], rfl, ⟨⟨⟨?_, rfl, rfl⟩, trivial⟩, by simp [hpAt, fitH], by simp [hpAt]⟩⟩; refine congrArg (fun b => AV.v (Value.bool b)) ?_; first | rfl | (rw [Bool.eq_iff_iff]; simp only [decide_eq_true_eq, frB, inZ, Bool.false_eq_true, beq_eq_false_iff_ne, beq_iff_eq, ne_eq, decide_eq_false_iff_not, Bool.not_eq_eq_eq_not, Bool.not_true, Bool.not_false, false_iff, iff_false, true_iff, iff_true] at *; omega))
        · rw [if_pos (by simp [hf])]
          (refine ⟨_, [], rfl, ⟨⟨⟨?_, rfl, rfl⟩, trivial⟩, by simp [hpAt, fitH], by simp [hpAt]⟩⟩; refine congrArg (fun b => AV.v (Value.bool b)) ?_; first | rfl | (rw [Bool.eq_iff_iff]; simp only [decide_eq_true_eq, frB, inZ, Bool.false_eq_true, beq_eq_false_iff_ne, beq_iff_eq, ne_eq, decide_eq_false_iff_not, Bool.not_eq_eq_eq_not, Bool.not_true, Bool.not_false, false_iff, iff_false, true_iff, iff_true] at *; omega))
  · cases hg
theorem walk_FrameFrom (A : Option Addr) (n c : Nat) (xs : List UInt8) (w : World) (h : Rd w w.heap.size A n (bv xs)) (hc : n ≤ c) :
    Calls Try.prog 4 #[.slice A n c] w fun e w' => e = .returned (.bool true) ∧ Below w.heap.size w w' :=
  lawFrameFrom_ok.walk (args := [.l 1 (rowsOfBytes xs)]) (vs := [.slice A n c]) ⟨rfl, fun i x y hx hy => by
    cases i with
    | zero => simp at hx hy; subst hx; subst hy; exact .l _ _ _ (rep_of_rd h hc)
    | succ i => simp at hx⟩ rfl ⟨xs, rfl⟩
end Go.Proofs.Ytnnpijjdjdnffaa
