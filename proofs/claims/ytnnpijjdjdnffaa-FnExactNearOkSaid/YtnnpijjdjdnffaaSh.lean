import Derived.Test.YtnnpijjdjdnffaaSg
namespace Go.Proofs.Ytnnpijjdjdnffaa
open Go.RowKit
set_option linter.unusedSimpArgs false

def fbH (t f k : Int) (xs : List UInt8) : List UInt8 := [toU8 t, toU8 f, toU8 k, toU8 xs.length] ++ xs
def fbV (t f k : Int) (xs : List UInt8) : List UInt8 := if frB t f k xs.length = true then fbH t f k xs ++ bytesOf (sumOf (fbH t f k xs)) 2 else []
def g_frameBytes : PC := fun args => match args with
  | [.agg [.v (.int .i64 t), .v (.int .i64 f), .v (.int .i64 k), .l _ rows]] => some (∃ xs, rows = rowsOfBytes xs, .own 0, [.sl 5 1 (rowsOfBytes (fbV t f k (bytesOfRows rows)))])
  | _ => none
def fbs : List (FuncId × Abs) := [(19, pureAbs g_frameOk), (54, pureAbs g_frameOk), (53, pureAbs g_sumOf), (56, pureAbs g_sumOf), (52, pureAbs g_bytesOf), (55, pureAbs g_bytesOf)]
theorem fbs_ok : ∀ p ∈ fbs, CallOk Try.prog p.1 p.2 := by
  intro p hp
  simp only [fbs, List.mem_cons, List.not_mem_nil, or_false] at hp
  rcases hp with rfl | rfl | rfl | rfl | rfl | rfl
  · exact implFrameOk_ok.call
  · exact specFrameOk_ok.call
  · exact implSumOf_ok.call
  · exact specSumOf_ok.call
  · exact implBytesOf_ok.call
  · exact specBytesOf_ok.call
set_option maxRecDepth 100000 in
theorem specFrameBytes_ok : PureOk Try.prog 18 g_frameBytes := by
  refine PureOk.of_vc (G := fbs) fbs_ok mixed Try.func18 (by kernel_rfl) rfl ?_
  intro args cnd r bs hg hc
  unfold g_frameBytes at hg
  split at hg
  · rename_i t f k sz rows
    cases hg
    obtain ⟨xs, rfl⟩ := hc
    rw [bytesOf_rows]
    refine ⟨⟨rfl, by simpa [flatB] using rowsOf_flat (fbV t f k xs), by simp [AV.ids]⟩, [.agg [.v (.int .i64 t), .v (.int .i64 f), .v (.int .i64 k), .l 1 (rowsOfBytes xs)]], rfl, fun w vs h => CvL.ok (.cons (.cons (.refl _) (.cons (.refl _) (.cons (.refl _) (.cons (.l _ _ _ (rowsOf_w xs)) .nil)))) .nil) h, ?_⟩
    have hh : ([[D.v (Value.int IntKind.u8 (IntKind.u8.wrap t))], [D.v (Value.int IntKind.u8 (IntKind.u8.wrap f))], [D.v (Value.int IntKind.u8 (IntKind.u8.wrap k))], [D.v (Value.int IntKind.u8 (IntKind.u8.wrap (xs.length : Int)))]] ++ rowsOfBytes xs : List (List D)) = rowsOfBytes (fbH t f k xs) := by
      simp [fbH, rowsOfBytes, toU8_val]
    simp (maxSteps := 3000000) only [Try.f18, fbs, g_frameOk, g_sumOf, g_bytesOf, bytesOf_rows, ty_sz2, ty_st2, ty_cell2, ty_ck2, ty_inf2, ty_sz3, ty_st3, ty_cell3, ty_ck3, ty_inf3, ty_sz4, ty_st4, ty_cell4, ty_ck4, ty_inf4, ty_sz5, ty_st5, ty_cell5, ty_ck5, ty_inf5, ty_sz9, ty_st9, ty_cell9, ty_ck9, ty_inf9, ty_sz12, ty_st12, ty_cell12, ty_ck12, ty_inf12, ty_sz21, ty_st21, ty_cell21, ty_ck21, ty_inf21, ty_sz22, ty_st22, ty_cell22, ty_ck22, ty_inf22, ty_sz23, ty_st23, ty_cell23, ty_ck23, ty_inf23, ty_eq23, ty_f23_0, ty_f23_1, ty_f23_2, ty_f23_3, ty_sz24, ty_st24, ty_cell24, ty_ck24, ty_inf24, ty_eq24, ty_f24_0, ty_f24_1, ty_f24_2, ty_f24_3, ty_sz35, ty_st35, ty_cell35, ty_ck35, ty_inf35, ty_eq35, ty_f35_0, ty_f35_1, ty_f35_2, ty_f35_3, ty_sz36, ty_st36, ty_cell36, ty_ck36, ty_inf36, ty_eq36, ty_f36_0, ty_f36_1, ty_f36_2, ty_f36_3, ty_sz38, ty_st38, ty_cell38, ty_ck38, ty_inf38, ty_eq38, ty_f38_0, ty_f38_1, ty_f38_2, ty_f38_3, ty_sz51, ty_st51, ty_cell51, ty_ck51, ty_inf51, ty_sz52, ty_st52, ty_cell52, ty_ck52, ty_inf52, ty_sz53, ty_st53, ty_cell53, ty_ck53, ty_inf53, ty_eq53, ty_f53_0, ty_f53_1, ty_sz54, ty_st54, ty_cell54, ty_ck54, ty_inf54, ty_eq54, ty_f54_0, ty_f54_1, ty_sz57, ty_st57, ty_cell57, ty_ck57, ty_inf57, ty_sz58, ty_st58, ty_cell58, ty_ck58, ty_inf58, ty_sz59, ty_st59, ty_cell59, ty_ck59, ty_inf59, ty_eq59, ty_f59_0, ty_f59_1, ty_sz60, ty_st60, ty_cell60, ty_ck60, ty_inf60, ty_eq60, ty_f60_0, ty_f60_1, ty_sz78, ty_st78, ty_cell78, ty_ck78, ty_inf78, ty_eq78, ty_f78_0, ty_f78_1, ty_f78_2, ty_sz79, ty_st79, ty_cell79, ty_ck79, ty_inf79, ty_eq79, ty_f79_0, ty_f79_1, ty_f79_2, ty_sz80, ty_st80, ty_cell80, ty_ck80, ty_inf80, ty_eq80, ty_f80_0, ty_f80_1, ty_sz81, ty_st81, ty_cell81, ty_ck81, ty_inf81, ty_eq81, ty_f81_0, ty_f81_1, ty_sz90, ty_st90, ty_cell90, ty_ck90, ty_inf90, ty_eq90, ty_f90_0, ty_f90_1, ty_sz91, ty_st91, ty_cell91, ty_ck91, ty_inf91, ty_eq91, ty_f91_0, ty_f91_1, ty_sz94, ty_st94, ty_cell94, ty_ck94, ty_inf94, ty_eq94, ty_f94_0, ty_f94_1, ty_sz96, ty_st96, ty_cell96, ty_ck96, ty_inf96, ty_eq96, ty_f96_0, ty_f96_1, ty_f96_2, ty_sz108, ty_st108, ty_cell108, ty_ck108, ty_inf108, ty_sz117, ty_st117, ty_cell117, ty_ck117, ty_inf117, Try.underlying2, Try.underlying3, Try.underlying4, Try.underlying5, Try.underlying9, Try.underlying12, Try.underlying21, Try.underlying22, Try.underlying23, Try.underlying24, Try.underlying35, Try.underlying36, Try.underlying38, Try.underlying51, Try.underlying52, Try.underlying53, Try.underlying54, Try.underlying57, Try.underlying58, Try.underlying59, Try.underlying60, Try.underlying78, Try.underlying79, Try.underlying80, Try.underlying81, Try.underlying90, Try.underlying91, Try.underlying94, Try.underlying96, Try.underlying108, Try.underlying117, e_skip, e_label, e_ret, e_exit, e_seq, e_cond, e_block, e_region, seqK_normal, seqK_ret, seqK_exit, blkK_normal, blkK_ret, blkK_exit, condK_some, regK_true, regK_false, e_nil, e_cons, gateK_go, gateK_skip, gateK_ask, pickK_some, exK_some, x_pick, x_move, x_assign, x_alloc, x_box, x_build, x_buildSlice, x_load, x_store, x_binOp, x_unOp, x_convert, x_makeSlice, x_slice, x_fieldAddr, x_field, x_indexAddr, x_extract, x_nilCheck, x_call, x_len, x_append, x_min, oMin, eqAVs, callK_some, done_ret, done_normal, doneO_ret, doneO_normal, endsO_one, endsO_nil, endsO_more, ownAbs, frzAbs, leafs, leafs.leafsL, uniq, idxOf, bk, zipB, Blk.liveB, gate_none, gate_some, gateS_none, gateS_some, gateV_bool, gateV_undef, boolOf, evA, putT, refn, fpD, oBin, oUn, upsl, upl, up, ups, lk, dstsOf, resL, resA, packA, oLoad, oStore, oAlloc, oBox, oBuild, oBuildSlice, oMake, oAppend, oIndexAddr, oFieldAddr, oField, oExtract, oNil, oSlice, oLen, oConvert, rowLoad, fillA, fillR, dk, dks, dkRows, frz, loOf, hiOf, lenOf, rowsOf, nilV, lenV, putAt, views, viewsOk, CK.av, CK.ok, AV.cells, AV.one, Value.oneCell', Value.cells, pureAbs, nrm, nrm.nrmL, hpAt, sh, AV.ren, AV.ren.renL, Blk.ren, fpOf, foot, blkIds, AV.ids, AV.ids.idsL, Op.operands, Call.operands, List.find?_cons, List.find?_nil, Nat.reduceBEq, beq_self_eq_true, List.map_cons, List.map_nil, List.getD_cons_zero, List.getD_cons_succ, List.getD_nil, List.set_cons_zero, List.set_cons_succ, List.length_cons, List.length_nil, List.replicate, List.cons_append, List.nil_append, List.append_nil, List.getElem?_cons_zero, List.getElem?_cons_succ, List.getElem?_toArray, List.getElem?_nil, List.take_zero, List.take_succ_cons, List.take_nil, List.drop_zero, List.drop_succ_cons, List.drop_nil, List.headD_cons, List.tail_cons, List.flatten_cons, List.flatten_nil, List.flatMap_cons, List.flatMap_nil, List.toList_toArray, Array.toList_append, Option.bind_some, Option.map_some, Option.map_none, Option.isSome_some, List.all_nil, List.all_cons, Bool.and_self, Bool.and_true, Bool.true_and, true_and, and_true, ↓reduceIte, List.size_toArray, Bool.false_eq_true, Bool.true_eq_false, false_implies, true_implies, Bool.not_true, Bool.not_false, and_self, implies_true, decide_true, decide_false, Nat.reduceAdd, Nat.reduceMul, Nat.reduceLT, Nat.reduceSub, Nat.reduceLeDiff, Nat.reduceEqDiff, eq_self, ne_eq, not_false_eq_true, false_and, and_false, reduceCtorEq, List.filter_nil, List.filter_cons, List.isEmpty_nil, List.isEmpty_cons, bne_self_eq_false, Nat.reduceBneDiff, Nat.lt_add_one, Nat.zero_lt_succ, List.append_assoc, Nat.zero_le, and_self_iff, Int.reduceToNat, rowsOf_len, row_toI, row_nil, row_head, decide_eq_true_eq, decide_eq_false_iff_not, beq_iff_eq, Int.toNat_natCast, hh]
    refine ⟨rowsOf_w _, ?_⟩
    by_cases hok : frB t f k xs.length = true
    · rw [if_neg (by simp [hok])]
      have hl : xs.length ≤ 64 := by simp only [frB, decide_eq_true_eq] at hok; omega
      have hlb := bytesOf_len (sumOf (fbH t f k xs)) 2
      have hfl : (fbH t f k xs).length = 4 + xs.length := by simp [fbH]; omega
      have hs := (sumOf_bd (fbH t f k xs)).2
      refine ⟨⟨by omega, by omega, rowsOf_w _⟩, ⟨_, rfl, by omega⟩, by omega, ⟨by omega, by omega, rowsOf_w _⟩, _, [(0, some 432)], rfl, ?_⟩
      rw [fbV, if_pos hok, rowsOf_app]
      clear hs hlb hfl hl hh
      (refine ⟨?_, ?_, ?_⟩ <;> simp [packA, hpAt, fitT, fit1, fitH, fitB, emptyB, rn, lk, AV.ren, AV.ren.renL, Blk.ren, blkIds, blkPids, AV.ids, AV.ids.idsL, AV.pids, AV.pids.pidsL, Blk.there])
    · rw [if_pos (by simp [hok])]
      refine ⟨_, [(0, some 80)], rfl, ?_⟩
      rw [fbV, if_neg hok, rowsOf_nil]
      (refine ⟨?_, ?_, ?_⟩ <;> simp [packA, hpAt, fitT, fit1, fitH, fitB, emptyB, rn, lk, AV.ren, AV.ren.renL, Blk.ren, blkIds, blkPids, AV.ids, AV.ids.idsL, AV.pids, AV.pids.pidsL, Blk.there])
  · cases hg
set_option maxRecDepth 100000 in
theorem implFrameBytes_ok : PureOk Try.prog 16 g_frameBytes := by
  refine PureOk.of_vc (G := fbs) fbs_ok mixed Try.func16 (by kernel_rfl) rfl ?_
  intro args cnd r bs hg hc
  unfold g_frameBytes at hg
  split at hg
  · rename_i t f k sz rows
    cases hg
    obtain ⟨xs, rfl⟩ := hc
    rw [bytesOf_rows]
    refine ⟨⟨rfl, by simpa [flatB] using rowsOf_flat (fbV t f k xs), by simp [AV.ids]⟩, [.agg [.v (.int .i64 t), .v (.int .i64 f), .v (.int .i64 k), .l 1 (rowsOfBytes xs)]], rfl, fun w vs h => CvL.ok (.cons (.cons (.refl _) (.cons (.refl _) (.cons (.refl _) (.cons (.l _ _ _ (rowsOf_w xs)) .nil)))) .nil) h, ?_⟩
    have hh : ([[D.v (Value.int IntKind.u8 (IntKind.u8.wrap t))], [D.v (Value.int IntKind.u8 (IntKind.u8.wrap f))], [D.v (Value.int IntKind.u8 (IntKind.u8.wrap k))], [D.v (Value.int IntKind.u8 (IntKind.u8.wrap (xs.length : Int)))]] ++ rowsOfBytes xs : List (List D)) = rowsOfBytes (fbH t f k xs) := by
      simp [fbH, rowsOfBytes, toU8_val]
    simp (maxSteps := 3000000) only [Try.f16, fbs, g_frameOk, g_sumOf, g_bytesOf, bytesOf_rows, ty_sz2, ty_st2, ty_cell2, ty_ck2, ty_inf2, ty_sz3, ty_st3, ty_cell3, ty_ck3, ty_inf3, ty_sz4, ty_st4, ty_cell4, ty_ck4, ty_inf4, ty_sz5, ty_st5, ty_cell5, ty_ck5, ty_inf5, ty_sz9, ty_st9, ty_cell9, ty_ck9, ty_inf9, ty_sz12, ty_st12, ty_cell12, ty_ck12, ty_inf12, ty_sz21, ty_st21, ty_cell21, ty_ck21, ty_inf21, ty_sz22, ty_st22, ty_cell22, ty_ck22, ty_inf22, ty_sz23, ty_st23, ty_cell23, ty_ck23, ty_inf23, ty_eq23, ty_f23_0, ty_f23_1, ty_f23_2, ty_f23_3, ty_sz24, ty_st24, ty_cell24, ty_ck24, ty_inf24, ty_eq24, ty_f24_0, ty_f24_1, ty_f24_2, ty_f24_3, ty_sz35, ty_st35, ty_cell35, ty_ck35, ty_inf35, ty_eq35, ty_f35_0, ty_f35_1, ty_f35_2, ty_f35_3, ty_sz36, ty_st36, ty_cell36, ty_ck36, ty_inf36, ty_eq36, ty_f36_0, ty_f36_1, ty_f36_2, ty_f36_3, ty_sz38, ty_st38, ty_cell38, ty_ck38, ty_inf38, ty_eq38, ty_f38_0, ty_f38_1, ty_f38_2, ty_f38_3, ty_sz51, ty_st51, ty_cell51, ty_ck51, ty_inf51, ty_sz52, ty_st52, ty_cell52, ty_ck52, ty_inf52, ty_sz53, ty_st53, ty_cell53, ty_ck53, ty_inf53, ty_eq53, ty_f53_0, ty_f53_1, ty_sz54, ty_st54, ty_cell54, ty_ck54, ty_inf54, ty_eq54, ty_f54_0, ty_f54_1, ty_sz57, ty_st57, ty_cell57, ty_ck57, ty_inf57, ty_sz58, ty_st58, ty_cell58, ty_ck58, ty_inf58, ty_sz59, ty_st59, ty_cell59, ty_ck59, ty_inf59, ty_eq59, ty_f59_0, ty_f59_1, ty_sz60, ty_st60, ty_cell60, ty_ck60, ty_inf60, ty_eq60, ty_f60_0, ty_f60_1, ty_sz78, ty_st78, ty_cell78, ty_ck78, ty_inf78, ty_eq78, ty_f78_0, ty_f78_1, ty_f78_2, ty_sz79, ty_st79, ty_cell79, ty_ck79, ty_inf79, ty_eq79, ty_f79_0, ty_f79_1, ty_f79_2, ty_sz80, ty_st80, ty_cell80, ty_ck80, ty_inf80, ty_eq80, ty_f80_0, ty_f80_1, ty_sz81, ty_st81, ty_cell81, ty_ck81, ty_inf81, ty_eq81, ty_f81_0, ty_f81_1, ty_sz90, ty_st90, ty_cell90, ty_ck90, ty_inf90, ty_eq90, ty_f90_0, ty_f90_1, ty_sz91, ty_st91, ty_cell91, ty_ck91, ty_inf91, ty_eq91, ty_f91_0, ty_f91_1, ty_sz94, ty_st94, ty_cell94, ty_ck94, ty_inf94, ty_eq94, ty_f94_0, ty_f94_1, ty_sz96, ty_st96, ty_cell96, ty_ck96, ty_inf96, ty_eq96, ty_f96_0, ty_f96_1, ty_f96_2, ty_sz108, ty_st108, ty_cell108, ty_ck108, ty_inf108, ty_sz117, ty_st117, ty_cell117, ty_ck117, ty_inf117, Try.underlying2, Try.underlying3, Try.underlying4, Try.underlying5, Try.underlying9, Try.underlying12, Try.underlying21, Try.underlying22, Try.underlying23, Try.underlying24, Try.underlying35, Try.underlying36, Try.underlying38, Try.underlying51, Try.underlying52, Try.underlying53, Try.underlying54, Try.underlying57, Try.underlying58, Try.underlying59, Try.underlying60, Try.underlying78, Try.underlying79, Try.underlying80, Try.underlying81, Try.underlying90, Try.underlying91, Try.underlying94, Try.underlying96, Try.underlying108, Try.underlying117, e_skip, e_label, e_ret, e_exit, e_seq, e_cond, e_block, e_region, seqK_normal, seqK_ret, seqK_exit, blkK_normal, blkK_ret, blkK_exit, condK_some, regK_true, regK_false, e_nil, e_cons, gateK_go, gateK_skip, gateK_ask, pickK_some, exK_some, x_pick, x_move, x_assign, x_alloc, x_box, x_build, x_buildSlice, x_load, x_store, x_binOp, x_unOp, x_convert, x_makeSlice, x_slice, x_fieldAddr, x_field, x_indexAddr, x_extract, x_nilCheck, x_call, x_len, x_append, x_min, oMin, eqAVs, callK_some, done_ret, done_normal, doneO_ret, doneO_normal, endsO_one, endsO_nil, endsO_more, ownAbs, frzAbs, leafs, leafs.leafsL, uniq, idxOf, bk, zipB, Blk.liveB, gate_none, gate_some, gateS_none, gateS_some, gateV_bool, gateV_undef, boolOf, evA, putT, refn, fpD, oBin, oUn, upsl, upl, up, ups, lk, dstsOf, resL, resA, packA, oLoad, oStore, oAlloc, oBox, oBuild, oBuildSlice, oMake, oAppend, oIndexAddr, oFieldAddr, oField, oExtract, oNil, oSlice, oLen, oConvert, rowLoad, fillA, fillR, dk, dks, dkRows, frz, loOf, hiOf, lenOf, rowsOf, nilV, lenV, putAt, views, viewsOk, CK.av, CK.ok, AV.cells, AV.one, Value.oneCell', Value.cells, pureAbs, nrm, nrm.nrmL, hpAt, sh, AV.ren, AV.ren.renL, Blk.ren, fpOf, foot, blkIds, AV.ids, AV.ids.idsL, Op.operands, Call.operands, List.find?_cons, List.find?_nil, Nat.reduceBEq, beq_self_eq_true, List.map_cons, List.map_nil, List.getD_cons_zero, List.getD_cons_succ, List.getD_nil, List.set_cons_zero, List.set_cons_succ, List.length_cons, List.length_nil, List.replicate, List.cons_append, List.nil_append, List.append_nil, List.getElem?_cons_zero, List.getElem?_cons_succ, List.getElem?_toArray, List.getElem?_nil, List.take_zero, List.take_succ_cons, List.take_nil, List.drop_zero, List.drop_succ_cons, List.drop_nil, List.headD_cons, List.tail_cons, List.flatten_cons, List.flatten_nil, List.flatMap_cons, List.flatMap_nil, List.toList_toArray, Array.toList_append, Option.bind_some, Option.map_some, Option.map_none, Option.isSome_some, List.all_nil, List.all_cons, Bool.and_self, Bool.and_true, Bool.true_and, true_and, and_true, ↓reduceIte, List.size_toArray, Bool.false_eq_true, Bool.true_eq_false, false_implies, true_implies, Bool.not_true, Bool.not_false, and_self, implies_true, decide_true, decide_false, Nat.reduceAdd, Nat.reduceMul, Nat.reduceLT, Nat.reduceSub, Nat.reduceLeDiff, Nat.reduceEqDiff, eq_self, ne_eq, not_false_eq_true, false_and, and_false, reduceCtorEq, List.filter_nil, List.filter_cons, List.isEmpty_nil, List.isEmpty_cons, bne_self_eq_false, Nat.reduceBneDiff, Nat.lt_add_one, Nat.zero_lt_succ, List.append_assoc, Nat.zero_le, and_self_iff, Int.reduceToNat, rowsOf_len, row_toI, row_nil, row_head, decide_eq_true_eq, decide_eq_false_iff_not, beq_iff_eq, Int.toNat_natCast, hh]
    refine ⟨rowsOf_w _, ?_⟩
    by_cases hok : frB t f k xs.length = true
    · rw [if_neg (by simp [hok])]
      have hl : xs.length ≤ 64 := by simp only [frB, decide_eq_true_eq] at hok; omega
      have hlb := bytesOf_len (sumOf (fbH t f k xs)) 2
      have hfl : (fbH t f k xs).length = 4 + xs.length := by simp [fbH]; omega
      have hs := (sumOf_bd (fbH t f k xs)).2
      have w1 : IntKind.i64.wrap (4 + (xs.length : Int)) = 4 + (xs.length : Int) := wrap_id (by omega) (by omega)
      have w2 : IntKind.i64.wrap (4 + (xs.length : Int) + 2) = 4 + (xs.length : Int) + 2 := wrap_id (by omega) (by omega)
      rw [w1, w2]
      refine ⟨⟨by omega, by omega, by omega, by omega⟩, by simp, ⟨by omega, by omega, rowsOf_w _⟩, ⟨_, rfl, by omega⟩, by omega, ⟨by omega, by omega, rowsOf_w _⟩, _, [(0, some 608)], rfl, ?_⟩
      rw [fbV, if_pos hok, rowsOf_app]
      clear hs hlb hfl hl hh w1 w2
      (refine ⟨?_, ?_, ?_⟩ <;> simp [packA, hpAt, fitT, fit1, fitH, fitB, emptyB, rn, lk, AV.ren, AV.ren.renL, Blk.ren, blkIds, blkPids, AV.ids, AV.ids.idsL, AV.pids, AV.pids.pidsL, Blk.there])
    · rw [if_pos (by simp [hok])]
      refine ⟨_, [(0, none)], rfl, ?_⟩
      rw [fbV, if_neg hok, rowsOf_nil]
      (refine ⟨?_, ?_, ?_⟩ <;> simp [packA, hpAt, fitT, fit1, fitH, fitB, emptyB, rn, lk, AV.ren, AV.ren.renL, Blk.ren, blkIds, blkPids, AV.ids, AV.ids.idsL, AV.pids, AV.pids.pidsL, Blk.there])
      rfl
  · cases hg
end Go.Proofs.Ytnnpijjdjdnffaa
