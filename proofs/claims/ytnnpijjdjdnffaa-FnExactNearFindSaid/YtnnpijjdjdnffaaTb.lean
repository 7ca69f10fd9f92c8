import Derived.Test.YtnnpijjdjdnffaaTa
import Derived.Test.YtnnpijjdjdnffaaSj
import Derived.Test.YtnnpijjdjdnffaaLw2
namespace Go.Proofs.Ytnnpijjdjdnffaa
open Go.RowKit
set_option linter.unusedSimpArgs false

/-! old contracts of numbers, told of the plain machine -/
def g_numberAt : PC := fun args => match args with
  | [.l _ rows, .v (.int .i64 a), .v (.int .i64 n)] => some (∃ xs, rows = rowsOfBytes xs ∧ xs.length ≤ 140737488355328, .v (.int .i64 (numAt (bytesOfRows rows) a n)), [])
  | _ => none
theorem arg_lii {w : World} {sz : Nat} {rows : List (List D)} {a b : Value} {vs : List Value} (h : ARel w (Zold w) (fun _ => .none) (fun _ => nilS) [.l sz rows, .v a, .v b] vs) : ∃ u, vs = [u, a, b] ∧ Rep w (Zold w) (.l sz rows) u := by
  obtain ⟨hl, hr⟩ := h
  match vs, hl, hr with
  | [u, x, y], _, hr =>
    have h1 := hr 0 _ u rfl rfl
    have h2 := hr 1 _ x rfl rfl
    have h3 := hr 2 _ y rfl rfl
    cases h1 with
    | l _ _ _ h1 =>
      cases h2
      cases h3
      exact ⟨u, rfl, h1⟩
theorem implNumberAt_ok : PureOk Try.prog 63 g_numberAt := by
  refine PureOk.of_calls ⟨_, _, Try.func63, by kernel_rfl, rfl⟩ fun w args vs c r bs hargs hg hc => ?_
  unfold g_numberAt at hg
  split at hg
  · cases hg
    obtain ⟨xs, rfl, hl⟩ := hc
    obtain ⟨u, rfl, h1⟩ := arg_lii hargs
    obtain ⟨A, n, c, rfl, hx, _⟩ := rd_of_rep h1
    rw [bytesOf_rows]
    refine ⟨_, rfl, rfl, (numberAt_any A n c _ xs _ _ w hx (by have := rd_len hx; omega)).mono ?_⟩
    rintro e w' ⟨rfl, rfl⟩
    exact ⟨rfl, Below.refl _ _⟩
  · cases hg
theorem specNumberAt_ok : PureOk Try.prog 60 g_numberAt := by
  refine PureOk.of_calls ⟨_, _, Try.func60, by kernel_rfl, rfl⟩ fun w args vs c r bs hargs hg hc => ?_
  unfold g_numberAt at hg
  split at hg
  · cases hg
    obtain ⟨xs, rfl, hl⟩ := hc
    obtain ⟨u, rfl, h1⟩ := arg_lii hargs
    obtain ⟨A, n, c, rfl, hx, _⟩ := rd_of_rep h1
    rw [bytesOf_rows]
    refine ⟨_, rfl, rfl, (numberAtS_any A n c _ xs _ _ w hx (by have := rd_len hx; omega)).mono ?_⟩
    rintro e w' ⟨rfl, rfl⟩
    exact ⟨rfl, Below.refl _ _⟩
  · cases hg

/-! chapter 3: queries as bytes -/
def qbV (k l a w : Int) : List UInt8 := if qB k l a w = true then [toU8 k, toU8 l] ++ bytesOf a 2 ++ bytesOf w 2 else []
def g_queryBytes : PC := fun args => match args with
  | [.agg [.v (.int .i64 k), .v (.int .i64 l), .v (.int .i64 a), .v (.int .i64 w)]] => some (True, .own 0, [.sl 5 1 (rowsOfBytes (qbV k l a w))])
  | _ => none
/-- the query that bytes tell, or none -/
def qfOk (xs : List UInt8) : Bool := decide (xs.length = 6) && qB ((xs.getD 0 0).toNat : Int) ((xs.getD 1 0).toNat : Int) (numAt xs 2 2) (numAt xs 4 2)
def qfK (xs : List UInt8) : Int := if qfOk xs = true then ((xs.getD 0 0).toNat : Int) else 0
def qfL (xs : List UInt8) : Int := if qfOk xs = true then ((xs.getD 1 0).toNat : Int) else 0
def qfA (xs : List UInt8) : Int := if qfOk xs = true then numAt xs 2 2 else 0
def qfW (xs : List UInt8) : Int := if qfOk xs = true then numAt xs 4 2 else 0
def g_queryFrom : PC := fun args => match args with
  | [.l _ rows] => some (∃ xs, rows = rowsOfBytes xs ∧ xs.length ≤ 140737488355328, .tup [.agg [.v (.int .i64 (qfK (bytesOfRows rows))), .v (.int .i64 (qfL (bytesOfRows rows))), .v (.int .i64 (qfA (bytesOfRows rows))), .v (.int .i64 (qfW (bytesOfRows rows)))], .v (.bool (qfOk (bytesOfRows rows)))], [])
  | _ => none
/-- is a query answered -/
def ntB (link addr k l a w : Int) : Bool := qB k l a w && decide (k = 1 ∧ w = addr) && qB 2 link addr a
def g_nearTells : PC := fun args => match args with
  | [.v (.int .i64 link), .v (.int .i64 addr), .agg [.v (.int .i64 k), .v (.int .i64 l), .v (.int .i64 a), .v (.int .i64 w)]] => some (True, .tup [.agg [.v (.int .i64 (if ntB link addr k l a w = true then 2 else 0)), .v (.int .i64 (if ntB link addr k l a w = true then link else 0)), .v (.int .i64 (if ntB link addr k l a w = true then addr else 0)), .v (.int .i64 (if ntB link addr k l a w = true then a else 0))], .v (.bool (ntB link addr k l a w))], [])
  | _ => none
def qbs : List (FuncId × Abs) := [(27, pureAbs g_queryOk), (25, pureAbs g_queryOk), (52, pureAbs g_bytesOf), (55, pureAbs g_bytesOf), (63, pureAbs g_numberAt), (60, pureAbs g_numberAt)]
theorem qbs_ok : ∀ p ∈ qbs, CallOk Try.prog p.1 p.2 := by
  intro p hp
  simp only [qbs, List.mem_cons, List.not_mem_nil, or_false] at hp
  rcases hp with rfl | rfl | rfl | rfl | rfl | rfl
  · exact implQueryOk_ok.call
  · exact specQueryOk_ok.call
  · exact implBytesOf_ok.call
  · exact specBytesOf_ok.call
  · exact implNumberAt_ok.call
  · exact specNumberAt_ok.call
theorem qbV_yes {k l a w : Int} (h : qB k l a w = true) : rowsOfBytes (qbV k l a w) = [D.v (Value.int IntKind.u8 (IntKind.u8.wrap k))] :: [D.v (Value.int IntKind.u8 (IntKind.u8.wrap l))] :: (rowsOfBytes (bytesOf a 2) ++ rowsOfBytes (bytesOf w 2)) := by
  rw [qbV, if_pos h, ← rowsOf_app, ← rowsOf_app]
  simp [rowsOfBytes, toU8_val]
theorem qbV_no {k l a w : Int} (h : ¬ qB k l a w = true) : rowsOfBytes (qbV k l a w) = [] := by rw [qbV, if_neg h]; rfl
set_option maxRecDepth 100000 in
theorem specQueryBytes_ok : PureOk Try.prog 28 g_queryBytes := by
  refine PureOk.of_vc (G := qbs) qbs_ok mixed Try.func28 (by kernel_rfl) rfl ?_
  intro args cnd r bs hg hc
  unfold g_queryBytes at hg
  split at hg
  · rename_i k l a w
    cases hg
    refine ⟨⟨rfl, by simpa [flatB] using rowsOf_flat (qbV k l a w), by simp [AV.ids]⟩, _, rfl, fun w vs h => h, ?_⟩
    simp (maxSteps := 3000000) only [Try.f28, qbs, g_queryOk, g_bytesOf, ty_sz2, ty_st2, ty_cell2, ty_ck2, ty_inf2, ty_sz3, ty_st3, ty_cell3, ty_ck3, ty_inf3, ty_sz4, ty_st4, ty_cell4, ty_ck4, ty_inf4, ty_sz5, ty_st5, ty_cell5, ty_ck5, ty_inf5, ty_sz9, ty_st9, ty_cell9, ty_ck9, ty_inf9, ty_sz12, ty_st12, ty_cell12, ty_ck12, ty_inf12, ty_sz21, ty_st21, ty_cell21, ty_ck21, ty_inf21, ty_sz22, ty_st22, ty_cell22, ty_ck22, ty_inf22, ty_sz23, ty_st23, ty_cell23, ty_ck23, ty_inf23, ty_eq23, ty_f23_0, ty_f23_1, ty_f23_2, ty_f23_3, ty_sz24, ty_st24, ty_cell24, ty_ck24, ty_inf24, ty_eq24, ty_f24_0, ty_f24_1, ty_f24_2, ty_f24_3, ty_sz35, ty_st35, ty_cell35, ty_ck35, ty_inf35, ty_eq35, ty_f35_0, ty_f35_1, ty_f35_2, ty_f35_3, ty_sz36, ty_st36, ty_cell36, ty_ck36, ty_inf36, ty_eq36, ty_f36_0, ty_f36_1, ty_f36_2, ty_f36_3, ty_sz38, ty_st38, ty_cell38, ty_ck38, ty_inf38, ty_eq38, ty_f38_0, ty_f38_1, ty_f38_2, ty_f38_3, ty_sz51, ty_st51, ty_cell51, ty_ck51, ty_inf51, ty_sz52, ty_st52, ty_cell52, ty_ck52, ty_inf52, ty_sz53, ty_st53, ty_cell53, ty_ck53, ty_inf53, ty_eq53, ty_f53_0, ty_f53_1, ty_sz54, ty_st54, ty_cell54, ty_ck54, ty_inf54, ty_eq54, ty_f54_0, ty_f54_1, ty_sz57, ty_st57, ty_cell57, ty_ck57, ty_inf57, ty_sz58, ty_st58, ty_cell58, ty_ck58, ty_inf58, ty_sz59, ty_st59, ty_cell59, ty_ck59, ty_inf59, ty_eq59, ty_f59_0, ty_f59_1, ty_sz60, ty_st60, ty_cell60, ty_ck60, ty_inf60, ty_eq60, ty_f60_0, ty_f60_1, ty_sz78, ty_st78, ty_cell78, ty_ck78, ty_inf78, ty_eq78, ty_f78_0, ty_f78_1, ty_f78_2, ty_sz79, ty_st79, ty_cell79, ty_ck79, ty_inf79, ty_eq79, ty_f79_0, ty_f79_1, ty_f79_2, ty_sz80, ty_st80, ty_cell80, ty_ck80, ty_inf80, ty_eq80, ty_f80_0, ty_f80_1, ty_sz81, ty_st81, ty_cell81, ty_ck81, ty_inf81, ty_eq81, ty_f81_0, ty_f81_1, ty_sz90, ty_st90, ty_cell90, ty_ck90, ty_inf90, ty_eq90, ty_f90_0, ty_f90_1, ty_sz91, ty_st91, ty_cell91, ty_ck91, ty_inf91, ty_eq91, ty_f91_0, ty_f91_1, ty_sz94, ty_st94, ty_cell94, ty_ck94, ty_inf94, ty_eq94, ty_f94_0, ty_f94_1, ty_sz96, ty_st96, ty_cell96, ty_ck96, ty_inf96, ty_eq96, ty_f96_0, ty_f96_1, ty_f96_2, ty_sz108, ty_st108, ty_cell108, ty_ck108, ty_inf108, ty_sz117, ty_st117, ty_cell117, ty_ck117, ty_inf117, Try.underlying2, Try.underlying3, Try.underlying4, Try.underlying5, Try.underlying9, Try.underlying12, Try.underlying21, Try.underlying22, Try.underlying23, Try.underlying24, Try.underlying35, Try.underlying36, Try.underlying38, Try.underlying51, Try.underlying52, Try.underlying53, Try.underlying54, Try.underlying57, Try.underlying58, Try.underlying59, Try.underlying60, Try.underlying78, Try.underlying79, Try.underlying80, Try.underlying81, Try.underlying90, Try.underlying91, Try.underlying94, Try.underlying96, Try.underlying108, Try.underlying117, e_skip, e_label, e_ret, e_exit, e_seq, e_cond, e_block, e_region, seqK_normal, seqK_ret, seqK_exit, blkK_normal, blkK_ret, blkK_exit, condK_some, regK_true, regK_false, e_nil, e_cons, gateK_go, gateK_skip, gateK_ask, pickK_some, exK_some, x_pick, x_move, x_assign, x_alloc, x_box, x_build, x_buildSlice, x_load, x_store, x_binOp, x_unOp, x_convert, x_makeSlice, x_slice, x_fieldAddr, x_field, x_indexAddr, x_extract, x_nilCheck, x_call, x_len, x_append, x_min, oMin, eqAVs, callK_some, done_ret, done_normal, doneO_ret, doneO_normal, endsO_one, endsO_nil, endsO_more, ownAbs, frzAbs, leafs, leafs.leafsL, uniq, idxOf, bk, zipB, Blk.liveB, gate_none, gate_some, gateS_none, gateS_some, gateV_bool, gateV_undef, boolOf, evA, putT, refn, fpD, oBin, oUn, upsl, upl, up, ups, lk, dstsOf, resL, resA, packA, oLoad, oStore, oAlloc, oBox, oBuild, oBuildSlice, oMake, oAppend, oIndexAddr, oFieldAddr, oField, oExtract, oNil, oSlice, oLen, oConvert, rowLoad, fillA, fillR, dk, dks, dkRows, frz, loOf, hiOf, lenOf, rowsOf, nilV, lenV, putAt, views, viewsOk, CK.av, CK.ok, AV.cells, AV.one, Value.oneCell', Value.cells, pureAbs, nrm, nrm.nrmL, hpAt, sh, AV.ren, AV.ren.renL, Blk.ren, fpOf, foot, blkIds, AV.ids, AV.ids.idsL, Op.operands, Call.operands, List.find?_cons, List.find?_nil, Nat.reduceBEq, beq_self_eq_true, List.map_cons, List.map_nil, List.getD_cons_zero, List.getD_cons_succ, List.getD_nil, List.set_cons_zero, List.set_cons_succ, List.length_cons, List.length_nil, List.replicate, List.cons_append, List.nil_append, List.append_nil, List.getElem?_cons_zero, List.getElem?_cons_succ, List.getElem?_toArray, List.getElem?_nil, List.take_zero, List.take_succ_cons, List.take_nil, List.drop_zero, List.drop_succ_cons, List.drop_nil, List.headD_cons, List.tail_cons, List.flatten_cons, List.flatten_nil, List.flatMap_cons, List.flatMap_nil, List.toList_toArray, Array.toList_append, Option.bind_some, Option.map_some, Option.map_none, Option.isSome_some, List.all_nil, List.all_cons, Bool.and_self, Bool.and_true, Bool.true_and, true_and, and_true, ↓reduceIte, List.size_toArray, Bool.false_eq_true, Bool.true_eq_false, false_implies, true_implies, Bool.not_true, Bool.not_false, and_self, implies_true, decide_true, decide_false, Nat.reduceAdd, Nat.reduceMul, Nat.reduceLT, Nat.reduceSub, Nat.reduceLeDiff, Nat.reduceEqDiff, eq_self, ne_eq, not_false_eq_true, false_and, and_false, reduceCtorEq, List.filter_nil, List.filter_cons, List.isEmpty_nil, List.isEmpty_cons, bne_self_eq_false, Nat.reduceBneDiff, Nat.lt_add_one, Nat.zero_lt_succ, List.append_assoc, Nat.zero_le, and_self_iff, Int.reduceToNat, decide_eq_true_eq, decide_eq_false_iff_not, beq_iff_eq, Int.toNat_natCast]
    by_cases hq : qB k l a w = true
    · have h2 : (a : Int) ≤ 9223372036854775807 ∧ w ≤ 9223372036854775807 := by simp only [qB, decide_eq_true_eq] at hq; omega
      have h3 := bytesOf_len a 2
      have h4 := bytesOf_len w 2
      rw [if_neg (by simp [hq])]
      refine ⟨by omega, ⟨by rw [rowsOf_len]; omega, by rw [rowsOf_len]; omega, rowsOf_w _⟩, by omega, ⟨by rw [rowsOf_len, rowsOf_len]; omega, by rw [rowsOf_len, rowsOf_len]; omega, rowsOf_w _⟩, by kernel_rfl, _, [(0, some 304)], rfl, ?_⟩
      rw [qbV_yes hq]
      (refine ⟨?_, ?_, ?_⟩ <;> simp [packA, hpAt, fitT, fit1, fitH, fitB, emptyB, rn, lk, AV.ren, AV.ren.renL, Blk.ren, blkIds, blkPids, AV.ids, AV.ids.idsL, AV.pids, AV.pids.pidsL, Blk.there])
    · rw [if_pos (by simp [hq])]
      refine ⟨_, [(0, some 80)], rfl, ?_⟩
      rw [qbV_no hq]
      (refine ⟨?_, ?_, ?_⟩ <;> simp [packA, hpAt, fitT, fit1, fitH, fitB, emptyB, rn, lk, AV.ren, AV.ren.renL, Blk.ren, blkIds, blkPids, AV.ids, AV.ids.idsL, AV.pids, AV.pids.pidsL, Blk.there])
      try rfl
  · cases hg
set_option maxRecDepth 100000 in
theorem implQueryBytes_ok : PureOk Try.prog 29 g_queryBytes := by
  refine PureOk.of_vc (G := qbs) qbs_ok mixed Try.func29 (by kernel_rfl) rfl ?_
  intro args cnd r bs hg hc
  unfold g_queryBytes at hg
  split at hg
  · rename_i k l a w
    cases hg
    refine ⟨⟨rfl, by simpa [flatB] using rowsOf_flat (qbV k l a w), by simp [AV.ids]⟩, _, rfl, fun w vs h => h, ?_⟩
    simp (maxSteps := 3000000) only [Try.f29, qbs, g_queryOk, g_bytesOf, ty_sz2, ty_st2, ty_cell2, ty_ck2, ty_inf2, ty_sz3, ty_st3, ty_cell3, ty_ck3, ty_inf3, ty_sz4, ty_st4, ty_cell4, ty_ck4, ty_inf4, ty_sz5, ty_st5, ty_cell5, ty_ck5, ty_inf5, ty_sz9, ty_st9, ty_cell9, ty_ck9, ty_inf9, ty_sz12, ty_st12, ty_cell12, ty_ck12, ty_inf12, ty_sz21, ty_st21, ty_cell21, ty_ck21, ty_inf21, ty_sz22, ty_st22, ty_cell22, ty_ck22, ty_inf22, ty_sz23, ty_st23, ty_cell23, ty_ck23, ty_inf23, ty_eq23, ty_f23_0, ty_f23_1, ty_f23_2, ty_f23_3, ty_sz24, ty_st24, ty_cell24, ty_ck24, ty_inf24, ty_eq24, ty_f24_0, ty_f24_1, ty_f24_2, ty_f24_3, ty_sz35, ty_st35, ty_cell35, ty_ck35, ty_inf35, ty_eq35, ty_f35_0, ty_f35_1, ty_f35_2, ty_f35_3, ty_sz36, ty_st36, ty_cell36, ty_ck36, ty_inf36, ty_eq36, ty_f36_0, ty_f36_1, ty_f36_2, ty_f36_3, ty_sz38, ty_st38, ty_cell38, ty_ck38, ty_inf38, ty_eq38, ty_f38_0, ty_f38_1, ty_f38_2, ty_f38_3, ty_sz51, ty_st51, ty_cell51, ty_ck51, ty_inf51, ty_sz52, ty_st52, ty_cell52, ty_ck52, ty_inf52, ty_sz53, ty_st53, ty_cell53, ty_ck53, ty_inf53, ty_eq53, ty_f53_0, ty_f53_1, ty_sz54, ty_st54, ty_cell54, ty_ck54, ty_inf54, ty_eq54, ty_f54_0, ty_f54_1, ty_sz57, ty_st57, ty_cell57, ty_ck57, ty_inf57, ty_sz58, ty_st58, ty_cell58, ty_ck58, ty_inf58, ty_sz59, ty_st59, ty_cell59, ty_ck59, ty_inf59, ty_eq59, ty_f59_0, ty_f59_1, ty_sz60, ty_st60, ty_cell60, ty_ck60, ty_inf60, ty_eq60, ty_f60_0, ty_f60_1, ty_sz78, ty_st78, ty_cell78, ty_ck78, ty_inf78, ty_eq78, ty_f78_0, ty_f78_1, ty_f78_2, ty_sz79, ty_st79, ty_cell79, ty_ck79, ty_inf79, ty_eq79, ty_f79_0, ty_f79_1, ty_f79_2, ty_sz80, ty_st80, ty_cell80, ty_ck80, ty_inf80, ty_eq80, ty_f80_0, ty_f80_1, ty_sz81, ty_st81, ty_cell81, ty_ck81, ty_inf81, ty_eq81, ty_f81_0, ty_f81_1, ty_sz90, ty_st90, ty_cell90, ty_ck90, ty_inf90, ty_eq90, ty_f90_0, ty_f90_1, ty_sz91, ty_st91, ty_cell91, ty_ck91, ty_inf91, ty_eq91, ty_f91_0, ty_f91_1, ty_sz94, ty_st94, ty_cell94, ty_ck94, ty_inf94, ty_eq94, ty_f94_0, ty_f94_1, ty_sz96, ty_st96, ty_cell96, ty_ck96, ty_inf96, ty_eq96, ty_f96_0, ty_f96_1, ty_f96_2, ty_sz108, ty_st108, ty_cell108, ty_ck108, ty_inf108, ty_sz117, ty_st117, ty_cell117, ty_ck117, ty_inf117, Try.underlying2, Try.underlying3, Try.underlying4, Try.underlying5, Try.underlying9, Try.underlying12, Try.underlying21, Try.underlying22, Try.underlying23, Try.underlying24, Try.underlying35, Try.underlying36, Try.underlying38, Try.underlying51, Try.underlying52, Try.underlying53, Try.underlying54, Try.underlying57, Try.underlying58, Try.underlying59, Try.underlying60, Try.underlying78, Try.underlying79, Try.underlying80, Try.underlying81, Try.underlying90, Try.underlying91, Try.underlying94, Try.underlying96, Try.underlying108, Try.underlying117, e_skip, e_label, e_ret, e_exit, e_seq, e_cond, e_block, e_region, seqK_normal, seqK_ret, seqK_exit, blkK_normal, blkK_ret, blkK_exit, condK_some, regK_true, regK_false, e_nil, e_cons, gateK_go, gateK_skip, gateK_ask, pickK_some, exK_some, x_pick, x_move, x_assign, x_alloc, x_box, x_build, x_buildSlice, x_load, x_store, x_binOp, x_unOp, x_convert, x_makeSlice, x_slice, x_fieldAddr, x_field, x_indexAddr, x_extract, x_nilCheck, x_call, x_len, x_append, x_min, oMin, eqAVs, callK_some, done_ret, done_normal, doneO_ret, doneO_normal, endsO_one, endsO_nil, endsO_more, ownAbs, frzAbs, leafs, leafs.leafsL, uniq, idxOf, bk, zipB, Blk.liveB, gate_none, gate_some, gateS_none, gateS_some, gateV_bool, gateV_undef, boolOf, evA, putT, refn, fpD, oBin, oUn, upsl, upl, up, ups, lk, dstsOf, resL, resA, packA, oLoad, oStore, oAlloc, oBox, oBuild, oBuildSlice, oMake, oAppend, oIndexAddr, oFieldAddr, oField, oExtract, oNil, oSlice, oLen, oConvert, rowLoad, fillA, fillR, dk, dks, dkRows, frz, loOf, hiOf, lenOf, rowsOf, nilV, lenV, putAt, views, viewsOk, CK.av, CK.ok, AV.cells, AV.one, Value.oneCell', Value.cells, pureAbs, nrm, nrm.nrmL, hpAt, sh, AV.ren, AV.ren.renL, Blk.ren, fpOf, foot, blkIds, AV.ids, AV.ids.idsL, Op.operands, Call.operands, List.find?_cons, List.find?_nil, Nat.reduceBEq, beq_self_eq_true, List.map_cons, List.map_nil, List.getD_cons_zero, List.getD_cons_succ, List.getD_nil, List.set_cons_zero, List.set_cons_succ, List.length_cons, List.length_nil, List.replicate, List.cons_append, List.nil_append, List.append_nil, List.getElem?_cons_zero, List.getElem?_cons_succ, List.getElem?_toArray, List.getElem?_nil, List.take_zero, List.take_succ_cons, List.take_nil, List.drop_zero, List.drop_succ_cons, List.drop_nil, List.headD_cons, List.tail_cons, List.flatten_cons, List.flatten_nil, List.flatMap_cons, List.flatMap_nil, List.toList_toArray, Array.toList_append, Option.bind_some, Option.map_some, Option.map_none, Option.isSome_some, List.all_nil, List.all_cons, Bool.and_self, Bool.and_true, Bool.true_and, true_and, and_true, ↓reduceIte, List.size_toArray, Bool.false_eq_true, Bool.true_eq_false, false_implies, true_implies, Bool.not_true, Bool.not_false, and_self, implies_true, decide_true, decide_false, Nat.reduceAdd, Nat.reduceMul, Nat.reduceLT, Nat.reduceSub, Nat.reduceLeDiff, Nat.reduceEqDiff, eq_self, ne_eq, not_false_eq_true, false_and, and_false, reduceCtorEq, List.filter_nil, List.filter_cons, List.isEmpty_nil, List.isEmpty_cons, bne_self_eq_false, Nat.reduceBneDiff, Nat.lt_add_one, Nat.zero_lt_succ, List.append_assoc, Nat.zero_le, and_self_iff, Int.reduceToNat, decide_eq_true_eq, decide_eq_false_iff_not, beq_iff_eq, Int.toNat_natCast]
    by_cases hq : qB k l a w = true
    · have h2 : (a : Int) ≤ 9223372036854775807 ∧ w ≤ 9223372036854775807 := by simp only [qB, decide_eq_true_eq] at hq; omega
      have h3 := bytesOf_len a 2
      have h4 := bytesOf_len w 2
      rw [if_neg (by simp [hq])]
      refine ⟨by omega, by simp, by omega, ⟨by rw [rowsOf_len]; omega, by rw [rowsOf_len]; omega, rowsOf_w _⟩, by omega, ⟨by rw [rowsOf_len, rowsOf_len]; omega, by rw [rowsOf_len, rowsOf_len]; omega, rowsOf_w _⟩, _, [(0, some 432)], rfl, ?_⟩
      rw [qbV_yes hq]
      (refine ⟨?_, ?_, ?_⟩ <;> simp [packA, hpAt, fitT, fit1, fitH, fitB, emptyB, rn, lk, AV.ren, AV.ren.renL, Blk.ren, blkIds, blkPids, AV.ids, AV.ids.idsL, AV.pids, AV.pids.pidsL, Blk.there])
    · rw [if_pos (by simp [hq])]
      refine ⟨_, [(0, none)], rfl, ?_⟩
      rw [qbV_no hq]
      (refine ⟨?_, ?_, ?_⟩ <;> simp [packA, hpAt, fitT, fit1, fitH, fitB, emptyB, rn, lk, AV.ren, AV.ren.renL, Blk.ren, blkIds, blkPids, AV.ids, AV.ids.idsL, AV.pids, AV.pids.pidsL, Blk.there])
      try rfl
  · cases hg
set_option maxRecDepth 100000 in
theorem specQueryFrom_ok : PureOk Try.prog 33 g_queryFrom := by
  refine PureOk.of_vc (G := qbs) qbs_ok mixed Try.func33 (by kernel_rfl) rfl ?_
  intro args cnd r bs hg hc
  unfold g_queryFrom at hg
  split at hg
  · rename_i sz rows
    cases hg
    obtain ⟨xs, rfl, hl⟩ := hc
    rw [bytesOf_rows]
    refine ⟨⟨rfl, by simp, by simp [AV.ids, AV.ids.idsL]⟩, [.l 1 (rowsOfBytes xs)], rfl, fun w vs h => CvL.ok (.cons (.l _ _ _ (rowsOf_w xs)) .nil) h, ?_⟩
    simp (maxSteps := 3000000) only [Try.f33, qbs, g_queryOk, g_numberAt, bytesOf_rows, rowsOf_len, row_toI, row_nil, row_head, ty_sz2, ty_st2, ty_cell2, ty_ck2, ty_inf2, ty_sz3, ty_st3, ty_cell3, ty_ck3, ty_inf3, ty_sz4, ty_st4, ty_cell4, ty_ck4, ty_inf4, ty_sz5, ty_st5, ty_cell5, ty_ck5, ty_inf5, ty_sz9, ty_st9, ty_cell9, ty_ck9, ty_inf9, ty_sz12, ty_st12, ty_cell12, ty_ck12, ty_inf12, ty_sz21, ty_st21, ty_cell21, ty_ck21, ty_inf21, ty_sz22, ty_st22, ty_cell22, ty_ck22, ty_inf22, ty_sz23, ty_st23, ty_cell23, ty_ck23, ty_inf23, ty_eq23, ty_f23_0, ty_f23_1, ty_f23_2, ty_f23_3, ty_sz24, ty_st24, ty_cell24, ty_ck24, ty_inf24, ty_eq24, ty_f24_0, ty_f24_1, ty_f24_2, ty_f24_3, ty_sz35, ty_st35, ty_cell35, ty_ck35, ty_inf35, ty_eq35, ty_f35_0, ty_f35_1, ty_f35_2, ty_f35_3, ty_sz36, ty_st36, ty_cell36, ty_ck36, ty_inf36, ty_eq36, ty_f36_0, ty_f36_1, ty_f36_2, ty_f36_3, ty_sz38, ty_st38, ty_cell38, ty_ck38, ty_inf38, ty_eq38, ty_f38_0, ty_f38_1, ty_f38_2, ty_f38_3, ty_sz51, ty_st51, ty_cell51, ty_ck51, ty_inf51, ty_sz52, ty_st52, ty_cell52, ty_ck52, ty_inf52, ty_sz53, ty_st53, ty_cell53, ty_ck53, ty_inf53, ty_eq53, ty_f53_0, ty_f53_1, ty_sz54, ty_st54, ty_cell54, ty_ck54, ty_inf54, ty_eq54, ty_f54_0, ty_f54_1, ty_sz57, ty_st57, ty_cell57, ty_ck57, ty_inf57, ty_sz58, ty_st58, ty_cell58, ty_ck58, ty_inf58, ty_sz59, ty_st59, ty_cell59, ty_ck59, ty_inf59, ty_eq59, ty_f59_0, ty_f59_1, ty_sz60, ty_st60, ty_cell60, ty_ck60, ty_inf60, ty_eq60, ty_f60_0, ty_f60_1, ty_sz78, ty_st78, ty_cell78, ty_ck78, ty_inf78, ty_eq78, ty_f78_0, ty_f78_1, ty_f78_2, ty_sz79, ty_st79, ty_cell79, ty_ck79, ty_inf79, ty_eq79, ty_f79_0, ty_f79_1, ty_f79_2, ty_sz80, ty_st80, ty_cell80, ty_ck80, ty_inf80, ty_eq80, ty_f80_0, ty_f80_1, ty_sz81, ty_st81, ty_cell81, ty_ck81, ty_inf81, ty_eq81, ty_f81_0, ty_f81_1, ty_sz90, ty_st90, ty_cell90, ty_ck90, ty_inf90, ty_eq90, ty_f90_0, ty_f90_1, ty_sz91, ty_st91, ty_cell91, ty_ck91, ty_inf91, ty_eq91, ty_f91_0, ty_f91_1, ty_sz94, ty_st94, ty_cell94, ty_ck94, ty_inf94, ty_eq94, ty_f94_0, ty_f94_1, ty_sz96, ty_st96, ty_cell96, ty_ck96, ty_inf96, ty_eq96, ty_f96_0, ty_f96_1, ty_f96_2, ty_sz108, ty_st108, ty_cell108, ty_ck108, ty_inf108, ty_sz117, ty_st117, ty_cell117, ty_ck117, ty_inf117, Try.underlying2, Try.underlying3, Try.underlying4, Try.underlying5, Try.underlying9, Try.underlying12, Try.underlying21, Try.underlying22, Try.underlying23, Try.underlying24, Try.underlying35, Try.underlying36, Try.underlying38, Try.underlying51, Try.underlying52, Try.underlying53, Try.underlying54, Try.underlying57, Try.underlying58, Try.underlying59, Try.underlying60, Try.underlying78, Try.underlying79, Try.underlying80, Try.underlying81, Try.underlying90, Try.underlying91, Try.underlying94, Try.underlying96, Try.underlying108, Try.underlying117, e_skip, e_label, e_ret, e_exit, e_seq, e_cond, e_block, e_region, seqK_normal, seqK_ret, seqK_exit, blkK_normal, blkK_ret, blkK_exit, condK_some, regK_true, regK_false, e_nil, e_cons, gateK_go, gateK_skip, gateK_ask, pickK_some, exK_some, x_pick, x_move, x_assign, x_alloc, x_box, x_build, x_buildSlice, x_load, x_store, x_binOp, x_unOp, x_convert, x_makeSlice, x_slice, x_fieldAddr, x_field, x_indexAddr, x_extract, x_nilCheck, x_call, x_len, x_append, x_min, oMin, eqAVs, callK_some, done_ret, done_normal, doneO_ret, doneO_normal, endsO_one, endsO_nil, endsO_more, ownAbs, frzAbs, leafs, leafs.leafsL, uniq, idxOf, bk, zipB, Blk.liveB, gate_none, gate_some, gateS_none, gateS_some, gateV_bool, gateV_undef, boolOf, evA, putT, refn, fpD, oBin, oUn, upsl, upl, up, ups, lk, dstsOf, resL, resA, packA, oLoad, oStore, oAlloc, oBox, oBuild, oBuildSlice, oMake, oAppend, oIndexAddr, oFieldAddr, oField, oExtract, oNil, oSlice, oLen, oConvert, rowLoad, fillA, fillR, dk, dks, dkRows, frz, loOf, hiOf, lenOf, rowsOf, nilV, lenV, putAt, views, viewsOk, CK.av, CK.ok, AV.cells, AV.one, Value.oneCell', Value.cells, pureAbs, nrm, nrm.nrmL, hpAt, sh, AV.ren, AV.ren.renL, Blk.ren, fpOf, foot, blkIds, AV.ids, AV.ids.idsL, Op.operands, Call.operands, List.find?_cons, List.find?_nil, Nat.reduceBEq, beq_self_eq_true, List.map_cons, List.map_nil, List.getD_cons_zero, List.getD_cons_succ, List.getD_nil, List.set_cons_zero, List.set_cons_succ, List.length_cons, List.length_nil, List.replicate, List.cons_append, List.nil_append, List.append_nil, List.getElem?_cons_zero, List.getElem?_cons_succ, List.getElem?_toArray, List.getElem?_nil, List.take_zero, List.take_succ_cons, List.take_nil, List.drop_zero, List.drop_succ_cons, List.drop_nil, List.headD_cons, List.tail_cons, List.flatten_cons, List.flatten_nil, List.flatMap_cons, List.flatMap_nil, List.toList_toArray, Array.toList_append, Option.bind_some, Option.map_some, Option.map_none, Option.isSome_some, List.all_nil, List.all_cons, Bool.and_self, Bool.and_true, Bool.true_and, true_and, and_true, ↓reduceIte, List.size_toArray, Bool.false_eq_true, Bool.true_eq_false, false_implies, true_implies, Bool.not_true, Bool.not_false, and_self, implies_true, decide_true, decide_false, Nat.reduceAdd, Nat.reduceMul, Nat.reduceLT, Nat.reduceSub, Nat.reduceLeDiff, Nat.reduceEqDiff, eq_self, ne_eq, not_false_eq_true, false_and, and_false, reduceCtorEq, List.filter_nil, List.filter_cons, List.isEmpty_nil, List.isEmpty_cons, bne_self_eq_false, Nat.reduceBneDiff, Nat.lt_add_one, Nat.zero_lt_succ, List.append_assoc, Nat.zero_le, and_self_iff, Int.reduceToNat, decide_eq_true_eq, decide_eq_false_iff_not, beq_iff_eq, Int.toNat_natCast]
    have b0 := (xs.getD 0 0).toNat_lt
    have b1 := (xs.getD 1 0).toNat_lt
    have w0 : IntKind.i64.wrap ((xs.getD 0 0).toNat : Int) = ((xs.getD 0 0).toNat : Int) := wrap_id (by omega) (by omega)
    have w1 : IntKind.i64.wrap ((xs.getD 1 0).toNat : Int) = ((xs.getD 1 0).toNat : Int) := wrap_id (by omega) (by omega)
    rw [w0, w1]
    by_cases h6 : xs.length = 6
    · rw [if_neg (by simp [h6])]
      refine ⟨by omega, by omega, by omega, by omega, ⟨_, rfl, hl⟩, ⟨_, rfl, hl⟩, by kernel_rfl, ?_⟩
      by_cases hq : qB ((xs.getD 0 0).toNat : Int) ((xs.getD 1 0).toNat : Int) (numAt xs 2 2) (numAt xs 4 2) = true
      · have hok : qfOk xs = true := by simp only [qfOk, hq, h6]; rfl
        rw [if_neg (by rw [hq]; simp)]
        refine ⟨_, [], rfl, ?_⟩
        simp only [qfK, qfL, qfA, qfW, hok, if_true]
        (refine ⟨?_, ?_, ?_⟩ <;> simp [packA, hpAt, fitT, fit1, fitH, fitB, emptyB, rn, lk, AV.ren, AV.ren.renL, Blk.ren, blkIds, blkPids, AV.ids, AV.ids.idsL, AV.pids, AV.pids.pidsL, Blk.there])
      · have hok : qfOk xs = false := by simp only [qfOk, Bool.not_eq_true] at hq ⊢; simp only [hq, Bool.and_false]
        rw [if_pos (by rw [Bool.not_eq_true] at hq; rw [hq]; rfl)]
        refine ⟨_, [], rfl, ?_⟩
        simp only [qfK, qfL, qfA, qfW, hok, if_false, Bool.false_eq_true]
        (refine ⟨?_, ?_, ?_⟩ <;> simp [packA, hpAt, fitT, fit1, fitH, fitB, emptyB, rn, lk, AV.ren, AV.ren.renL, Blk.ren, blkIds, blkPids, AV.ids, AV.ids.idsL, AV.pids, AV.pids.pidsL, Blk.there])
    · have hok : qfOk xs = false := by simp only [qfOk, decide_eq_false h6, Bool.false_and]
      rw [if_pos (by simp; omega)]
      refine ⟨_, [], rfl, ?_⟩
      simp only [qfK, qfL, qfA, qfW, hok, if_false, Bool.false_eq_true]
      (refine ⟨?_, ?_, ?_⟩ <;> simp [packA, hpAt, fitT, fit1, fitH, fitB, emptyB, rn, lk, AV.ren, AV.ren.renL, Blk.ren, blkIds, blkPids, AV.ids, AV.ids.idsL, AV.pids, AV.pids.pidsL, Blk.there])
  · cases hg
set_option maxRecDepth 100000 in
theorem implQueryFrom_ok : PureOk Try.prog 35 g_queryFrom := by
  refine PureOk.of_vc (G := qbs) qbs_ok mixed Try.func35 (by kernel_rfl) rfl ?_
  intro args cnd r bs hg hc
  unfold g_queryFrom at hg
  split at hg
  · rename_i sz rows
    cases hg
    obtain ⟨xs, rfl, hl⟩ := hc
    rw [bytesOf_rows]
    refine ⟨⟨rfl, by simp, by simp [AV.ids, AV.ids.idsL]⟩, [.l 1 (rowsOfBytes xs)], rfl, fun w vs h => CvL.ok (.cons (.l _ _ _ (rowsOf_w xs)) .nil) h, ?_⟩
    simp (maxSteps := 3000000) only [Try.f35, qbs, g_queryOk, g_numberAt, bytesOf_rows, rowsOf_len, row_toI, row_nil, row_head, ty_sz2, ty_st2, ty_cell2, ty_ck2, ty_inf2, ty_sz3, ty_st3, ty_cell3, ty_ck3, ty_inf3, ty_sz4, ty_st4, ty_cell4, ty_ck4, ty_inf4, ty_sz5, ty_st5, ty_cell5, ty_ck5, ty_inf5, ty_sz9, ty_st9, ty_cell9, ty_ck9, ty_inf9, ty_sz12, ty_st12, ty_cell12, ty_ck12, ty_inf12, ty_sz21, ty_st21, ty_cell21, ty_ck21, ty_inf21, ty_sz22, ty_st22, ty_cell22, ty_ck22, ty_inf22, ty_sz23, ty_st23, ty_cell23, ty_ck23, ty_inf23, ty_eq23, ty_f23_0, ty_f23_1, ty_f23_2, ty_f23_3, ty_sz24, ty_st24, ty_cell24, ty_ck24, ty_inf24, ty_eq24, ty_f24_0, ty_f24_1, ty_f24_2, ty_f24_3, ty_sz35, ty_st35, ty_cell35, ty_ck35, ty_inf35, ty_eq35, ty_f35_0, ty_f35_1, ty_f35_2, ty_f35_3, ty_sz36, ty_st36, ty_cell36, ty_ck36, ty_inf36, ty_eq36, ty_f36_0, ty_f36_1, ty_f36_2, ty_f36_3, ty_sz38, ty_st38, ty_cell38, ty_ck38, ty_inf38, ty_eq38, ty_f38_0, ty_f38_1, ty_f38_2, ty_f38_3, ty_sz51, ty_st51, ty_cell51, ty_ck51, ty_inf51, ty_sz52, ty_st52, ty_cell52, ty_ck52, ty_inf52, ty_sz53, ty_st53, ty_cell53, ty_ck53, ty_inf53, ty_eq53, ty_f53_0, ty_f53_1, ty_sz54, ty_st54, ty_cell54, ty_ck54, ty_inf54, ty_eq54, ty_f54_0, ty_f54_1, ty_sz57, ty_st57, ty_cell57, ty_ck57, ty_inf57, ty_sz58, ty_st58, ty_cell58, ty_ck58, ty_inf58, ty_sz59, ty_st59, ty_cell59, ty_ck59, ty_inf59, ty_eq59, ty_f59_0, ty_f59_1, ty_sz60, ty_st60, ty_cell60, ty_ck60, ty_inf60, ty_eq60, ty_f60_0, ty_f60_1, ty_sz78, ty_st78, ty_cell78, ty_ck78, ty_inf78, ty_eq78, ty_f78_0, ty_f78_1, ty_f78_2, ty_sz79, ty_st79, ty_cell79, ty_ck79, ty_inf79, ty_eq79, ty_f79_0, ty_f79_1, ty_f79_2, ty_sz80, ty_st80, ty_cell80, ty_ck80, ty_inf80, ty_eq80, ty_f80_0, ty_f80_1, ty_sz81, ty_st81, ty_cell81, ty_ck81, ty_inf81, ty_eq81, ty_f81_0, ty_f81_1, ty_sz90, ty_st90, ty_cell90, ty_ck90, ty_inf90, ty_eq90, ty_f90_0, ty_f90_1, ty_sz91, ty_st91, ty_cell91, ty_ck91, ty_inf91, ty_eq91, ty_f91_0, ty_f91_1, ty_sz94, ty_st94, ty_cell94, ty_ck94, ty_inf94, ty_eq94, ty_f94_0, ty_f94_1, ty_sz96, ty_st96, ty_cell96, ty_ck96, ty_inf96, ty_eq96, ty_f96_0, ty_f96_1, ty_f96_2, ty_sz108, ty_st108, ty_cell108, ty_ck108, ty_inf108, ty_sz117, ty_st117, ty_cell117, ty_ck117, ty_inf117, Try.underlying2, Try.underlying3, Try.underlying4, Try.underlying5, Try.underlying9, Try.underlying12, Try.underlying21, Try.underlying22, Try.underlying23, Try.underlying24, Try.underlying35, Try.underlying36, Try.underlying38, Try.underlying51, Try.underlying52, Try.underlying53, Try.underlying54, Try.underlying57, Try.underlying58, Try.underlying59, Try.underlying60, Try.underlying78, Try.underlying79, Try.underlying80, Try.underlying81, Try.underlying90, Try.underlying91, Try.underlying94, Try.underlying96, Try.underlying108, Try.underlying117, e_skip, e_label, e_ret, e_exit, e_seq, e_cond, e_block, e_region, seqK_normal, seqK_ret, seqK_exit, blkK_normal, blkK_ret, blkK_exit, condK_some, regK_true, regK_false, e_nil, e_cons, gateK_go, gateK_skip, gateK_ask, pickK_some, exK_some, x_pick, x_move, x_assign, x_alloc, x_box, x_build, x_buildSlice, x_load, x_store, x_binOp, x_unOp, x_convert, x_makeSlice, x_slice, x_fieldAddr, x_field, x_indexAddr, x_extract, x_nilCheck, x_call, x_len, x_append, x_min, oMin, eqAVs, callK_some, done_ret, done_normal, doneO_ret, doneO_normal, endsO_one, endsO_nil, endsO_more, ownAbs, frzAbs, leafs, leafs.leafsL, uniq, idxOf, bk, zipB, Blk.liveB, gate_none, gate_some, gateS_none, gateS_some, gateV_bool, gateV_undef, boolOf, evA, putT, refn, fpD, oBin, oUn, upsl, upl, up, ups, lk, dstsOf, resL, resA, packA, oLoad, oStore, oAlloc, oBox, oBuild, oBuildSlice, oMake, oAppend, oIndexAddr, oFieldAddr, oField, oExtract, oNil, oSlice, oLen, oConvert, rowLoad, fillA, fillR, dk, dks, dkRows, frz, loOf, hiOf, lenOf, rowsOf, nilV, lenV, putAt, views, viewsOk, CK.av, CK.ok, AV.cells, AV.one, Value.oneCell', Value.cells, pureAbs, nrm, nrm.nrmL, hpAt, sh, AV.ren, AV.ren.renL, Blk.ren, fpOf, foot, blkIds, AV.ids, AV.ids.idsL, Op.operands, Call.operands, List.find?_cons, List.find?_nil, Nat.reduceBEq, beq_self_eq_true, List.map_cons, List.map_nil, List.getD_cons_zero, List.getD_cons_succ, List.getD_nil, List.set_cons_zero, List.set_cons_succ, List.length_cons, List.length_nil, List.replicate, List.cons_append, List.nil_append, List.append_nil, List.getElem?_cons_zero, List.getElem?_cons_succ, List.getElem?_toArray, List.getElem?_nil, List.take_zero, List.take_succ_cons, List.take_nil, List.drop_zero, List.drop_succ_cons, List.drop_nil, List.headD_cons, List.tail_cons, List.flatten_cons, List.flatten_nil, List.flatMap_cons, List.flatMap_nil, List.toList_toArray, Array.toList_append, Option.bind_some, Option.map_some, Option.map_none, Option.isSome_some, List.all_nil, List.all_cons, Bool.and_self, Bool.and_true, Bool.true_and, true_and, and_true, ↓reduceIte, List.size_toArray, Bool.false_eq_true, Bool.true_eq_false, false_implies, true_implies, Bool.not_true, Bool.not_false, and_self, implies_true, decide_true, decide_false, Nat.reduceAdd, Nat.reduceMul, Nat.reduceLT, Nat.reduceSub, Nat.reduceLeDiff, Nat.reduceEqDiff, eq_self, ne_eq, not_false_eq_true, false_and, and_false, reduceCtorEq, List.filter_nil, List.filter_cons, List.isEmpty_nil, List.isEmpty_cons, bne_self_eq_false, Nat.reduceBneDiff, Nat.lt_add_one, Nat.zero_lt_succ, List.append_assoc, Nat.zero_le, and_self_iff, Int.reduceToNat, decide_eq_true_eq, decide_eq_false_iff_not, beq_iff_eq, Int.toNat_natCast]
    have b0 := (xs.getD 0 0).toNat_lt
    have b1 := (xs.getD 1 0).toNat_lt
    have w0 : IntKind.i64.wrap ((xs.getD 0 0).toNat : Int) = ((xs.getD 0 0).toNat : Int) := wrap_id (by omega) (by omega)
    have w1 : IntKind.i64.wrap ((xs.getD 1 0).toNat : Int) = ((xs.getD 1 0).toNat : Int) := wrap_id (by omega) (by omega)
    rw [w0, w1]
    by_cases h6 : xs.length = 6
    · rw [if_neg (by simp [h6])]
      refine ⟨by omega, by omega, by omega, by omega, ⟨_, rfl, hl⟩, ⟨_, rfl, hl⟩, by kernel_rfl, ?_⟩
      by_cases hq : qB ((xs.getD 0 0).toNat : Int) ((xs.getD 1 0).toNat : Int) (numAt xs 2 2) (numAt xs 4 2) = true
      · have hok : qfOk xs = true := by simp only [qfOk, hq, h6]; rfl
        rw [if_neg (by rw [hq]; simp)]
        refine ⟨_, [], rfl, ?_⟩
        simp only [qfK, qfL, qfA, qfW, hok, if_true]
        (refine ⟨?_, ?_, ?_⟩ <;> simp [packA, hpAt, fitT, fit1, fitH, fitB, emptyB, rn, lk, AV.ren, AV.ren.renL, Blk.ren, blkIds, blkPids, AV.ids, AV.ids.idsL, AV.pids, AV.pids.pidsL, Blk.there])
      · have hok : qfOk xs = false := by simp only [qfOk, Bool.not_eq_true] at hq ⊢; simp only [hq, Bool.and_false]
        rw [if_pos (by rw [Bool.not_eq_true] at hq; rw [hq]; rfl)]
        refine ⟨_, [], rfl, ?_⟩
        simp only [qfK, qfL, qfA, qfW, hok, if_false, Bool.false_eq_true]
        (refine ⟨?_, ?_, ?_⟩ <;> simp [packA, hpAt, fitT, fit1, fitH, fitB, emptyB, rn, lk, AV.ren, AV.ren.renL, Blk.ren, blkIds, blkPids, AV.ids, AV.ids.idsL, AV.pids, AV.pids.pidsL, Blk.there])
    · have hok : qfOk xs = false := by simp only [qfOk, decide_eq_false h6, Bool.false_and]
      rw [if_pos (by simp; omega)]
      refine ⟨_, [], rfl, ?_⟩
      simp only [qfK, qfL, qfA, qfW, hok, if_false, Bool.false_eq_true]
      (refine ⟨?_, ?_, ?_⟩ <;> simp [packA, hpAt, fitT, fit1, fitH, fitB, emptyB, rn, lk, AV.ren, AV.ren.renL, Blk.ren, blkIds, blkPids, AV.ids, AV.ids.idsL, AV.pids, AV.pids.pidsL, Blk.there])
  · cases hg
set_option maxRecDepth 100000 in
theorem specNearTells_ok : PureOk Try.prog 37 g_nearTells := by
  refine PureOk.of_vc (G := qbs) qbs_ok mixed Try.func37 (by kernel_rfl) rfl ?_
  intro args cnd r bs hg hc
  unfold g_nearTells at hg
  split at hg
  · rename_i link addr k l a w
    cases hg
    refine ⟨⟨rfl, by simp, by simp [AV.ids, AV.ids.idsL]⟩, _, rfl, fun w vs h => h, ?_⟩
    simp (maxSteps := 3000000) only [Try.f37, qbs, g_queryOk, ty_sz2, ty_st2, ty_cell2, ty_ck2, ty_inf2, ty_sz3, ty_st3, ty_cell3, ty_ck3, ty_inf3, ty_sz4, ty_st4, ty_cell4, ty_ck4, ty_inf4, ty_sz5, ty_st5, ty_cell5, ty_ck5, ty_inf5, ty_sz9, ty_st9, ty_cell9, ty_ck9, ty_inf9, ty_sz12, ty_st12, ty_cell12, ty_ck12, ty_inf12, ty_sz21, ty_st21, ty_cell21, ty_ck21, ty_inf21, ty_sz22, ty_st22, ty_cell22, ty_ck22, ty_inf22, ty_sz23, ty_st23, ty_cell23, ty_ck23, ty_inf23, ty_eq23, ty_f23_0, ty_f23_1, ty_f23_2, ty_f23_3, ty_sz24, ty_st24, ty_cell24, ty_ck24, ty_inf24, ty_eq24, ty_f24_0, ty_f24_1, ty_f24_2, ty_f24_3, ty_sz35, ty_st35, ty_cell35, ty_ck35, ty_inf35, ty_eq35, ty_f35_0, ty_f35_1, ty_f35_2, ty_f35_3, ty_sz36, ty_st36, ty_cell36, ty_ck36, ty_inf36, ty_eq36, ty_f36_0, ty_f36_1, ty_f36_2, ty_f36_3, ty_sz38, ty_st38, ty_cell38, ty_ck38, ty_inf38, ty_eq38, ty_f38_0, ty_f38_1, ty_f38_2, ty_f38_3, ty_sz51, ty_st51, ty_cell51, ty_ck51, ty_inf51, ty_sz52, ty_st52, ty_cell52, ty_ck52, ty_inf52, ty_sz53, ty_st53, ty_cell53, ty_ck53, ty_inf53, ty_eq53, ty_f53_0, ty_f53_1, ty_sz54, ty_st54, ty_cell54, ty_ck54, ty_inf54, ty_eq54, ty_f54_0, ty_f54_1, ty_sz57, ty_st57, ty_cell57, ty_ck57, ty_inf57, ty_sz58, ty_st58, ty_cell58, ty_ck58, ty_inf58, ty_sz59, ty_st59, ty_cell59, ty_ck59, ty_inf59, ty_eq59, ty_f59_0, ty_f59_1, ty_sz60, ty_st60, ty_cell60, ty_ck60, ty_inf60, ty_eq60, ty_f60_0, ty_f60_1, ty_sz78, ty_st78, ty_cell78, ty_ck78, ty_inf78, ty_eq78, ty_f78_0, ty_f78_1, ty_f78_2, ty_sz79, ty_st79, ty_cell79, ty_ck79, ty_inf79, ty_eq79, ty_f79_0, ty_f79_1, ty_f79_2, ty_sz80, ty_st80, ty_cell80, ty_ck80, ty_inf80, ty_eq80, ty_f80_0, ty_f80_1, ty_sz81, ty_st81, ty_cell81, ty_ck81, ty_inf81, ty_eq81, ty_f81_0, ty_f81_1, ty_sz90, ty_st90, ty_cell90, ty_ck90, ty_inf90, ty_eq90, ty_f90_0, ty_f90_1, ty_sz91, ty_st91, ty_cell91, ty_ck91, ty_inf91, ty_eq91, ty_f91_0, ty_f91_1, ty_sz94, ty_st94, ty_cell94, ty_ck94, ty_inf94, ty_eq94, ty_f94_0, ty_f94_1, ty_sz96, ty_st96, ty_cell96, ty_ck96, ty_inf96, ty_eq96, ty_f96_0, ty_f96_1, ty_f96_2, ty_sz108, ty_st108, ty_cell108, ty_ck108, ty_inf108, ty_sz117, ty_st117, ty_cell117, ty_ck117, ty_inf117, Try.underlying2, Try.underlying3, Try.underlying4, Try.underlying5, Try.underlying9, Try.underlying12, Try.underlying21, Try.underlying22, Try.underlying23, Try.underlying24, Try.underlying35, Try.underlying36, Try.underlying38, Try.underlying51, Try.underlying52, Try.underlying53, Try.underlying54, Try.underlying57, Try.underlying58, Try.underlying59, Try.underlying60, Try.underlying78, Try.underlying79, Try.underlying80, Try.underlying81, Try.underlying90, Try.underlying91, Try.underlying94, Try.underlying96, Try.underlying108, Try.underlying117, e_skip, e_label, e_ret, e_exit, e_seq, e_cond, e_block, e_region, seqK_normal, seqK_ret, seqK_exit, blkK_normal, blkK_ret, blkK_exit, condK_some, regK_true, regK_false, e_nil, e_cons, gateK_go, gateK_skip, gateK_ask, pickK_some, exK_some, x_pick, x_move, x_assign, x_alloc, x_box, x_build, x_buildSlice, x_load, x_store, x_binOp, x_unOp, x_convert, x_makeSlice, x_slice, x_fieldAddr, x_field, x_indexAddr, x_extract, x_nilCheck, x_call, x_len, x_append, x_min, oMin, eqAVs, callK_some, done_ret, done_normal, doneO_ret, doneO_normal, endsO_one, endsO_nil, endsO_more, ownAbs, frzAbs, leafs, leafs.leafsL, uniq, idxOf, bk, zipB, Blk.liveB, gate_none, gate_some, gateS_none, gateS_some, gateV_bool, gateV_undef, boolOf, evA, putT, refn, fpD, oBin, oUn, upsl, upl, up, ups, lk, dstsOf, resL, resA, packA, oLoad, oStore, oAlloc, oBox, oBuild, oBuildSlice, oMake, oAppend, oIndexAddr, oFieldAddr, oField, oExtract, oNil, oSlice, oLen, oConvert, rowLoad, fillA, fillR, dk, dks, dkRows, frz, loOf, hiOf, lenOf, rowsOf, nilV, lenV, putAt, views, viewsOk, CK.av, CK.ok, AV.cells, AV.one, Value.oneCell', Value.cells, pureAbs, nrm, nrm.nrmL, hpAt, sh, AV.ren, AV.ren.renL, Blk.ren, fpOf, foot, blkIds, AV.ids, AV.ids.idsL, Op.operands, Call.operands, List.find?_cons, List.find?_nil, Nat.reduceBEq, beq_self_eq_true, List.map_cons, List.map_nil, List.getD_cons_zero, List.getD_cons_succ, List.getD_nil, List.set_cons_zero, List.set_cons_succ, List.length_cons, List.length_nil, List.replicate, List.cons_append, List.nil_append, List.append_nil, List.getElem?_cons_zero, List.getElem?_cons_succ, List.getElem?_toArray, List.getElem?_nil, List.take_zero, List.take_succ_cons, List.take_nil, List.drop_zero, List.drop_succ_cons, List.drop_nil, List.headD_cons, List.tail_cons, List.flatten_cons, List.flatten_nil, List.flatMap_cons, List.flatMap_nil, List.toList_toArray, Array.toList_append, Option.bind_some, Option.map_some, Option.map_none, Option.isSome_some, List.all_nil, List.all_cons, Bool.and_self, Bool.and_true, Bool.true_and, true_and, and_true, ↓reduceIte, List.size_toArray, Bool.false_eq_true, Bool.true_eq_false, false_implies, true_implies, Bool.not_true, Bool.not_false, and_self, implies_true, decide_true, decide_false, Nat.reduceAdd, Nat.reduceMul, Nat.reduceLT, Nat.reduceSub, Nat.reduceLeDiff, Nat.reduceEqDiff, eq_self, ne_eq, not_false_eq_true, false_and, and_false, reduceCtorEq, List.filter_nil, List.filter_cons, List.isEmpty_nil, List.isEmpty_cons, bne_self_eq_false, Nat.reduceBneDiff, Nat.lt_add_one, Nat.zero_lt_succ, List.append_assoc, Nat.zero_le, and_self_iff, Int.reduceToNat, decide_eq_true_eq, decide_eq_false_iff_not, beq_iff_eq, Int.toNat_natCast]
    by_cases hn : ntB link addr k l a w = true
    · simp only [hn, if_true]
      simp only [ntB, Bool.and_eq_true, decide_eq_true_eq] at hn
      obtain ⟨⟨h1, rfl, rfl⟩, h2⟩ := hn
      simp only [h1, h2, Bool.not_true, bne_self_eq_false, if_true, Bool.false_eq_true, if_false]
      exact ⟨_, [], rfl, by (refine ⟨?_, ?_, ?_⟩ <;> simp [packA, hpAt, fitT, fit1, fitH, fitB, emptyB, rn, lk, AV.ren, AV.ren.renL, Blk.ren, blkIds, blkPids, AV.ids, AV.ids.idsL, AV.pids, AV.pids.pidsL, Blk.there])⟩
    · have hn' : ntB link addr k l a w = false := by simpa using hn
      simp only [hn', if_false, Bool.false_eq_true]
      repeat' split
      all_goals first
      | (refine ⟨_, [], rfl, ?_⟩; (refine ⟨?_, ?_, ?_⟩ <;> simp [packA, hpAt, fitT, fit1, fitH, fitB, emptyB, rn, lk, AV.ren, AV.ren.renL, Blk.ren, blkIds, blkPids, AV.ids, AV.ids.idsL, AV.pids, AV.pids.pidsL, Blk.there]); done)
      | (exfalso; simp_all [ntB]; done)
  · cases hg
set_option maxRecDepth 100000 in
theorem implNearTells_ok : PureOk Try.prog 38 g_nearTells := by
  refine PureOk.of_vc (G := qbs) qbs_ok mixed Try.func38 (by kernel_rfl) rfl ?_
  intro args cnd r bs hg hc
  unfold g_nearTells at hg
  split at hg
  · rename_i link addr k l a w
    cases hg
    refine ⟨⟨rfl, by simp, by simp [AV.ids, AV.ids.idsL]⟩, _, rfl, fun w vs h => h, ?_⟩
    simp (maxSteps := 3000000) only [Try.f38, qbs, g_queryOk, ty_sz2, ty_st2, ty_cell2, ty_ck2, ty_inf2, ty_sz3, ty_st3, ty_cell3, ty_ck3, ty_inf3, ty_sz4, ty_st4, ty_cell4, ty_ck4, ty_inf4, ty_sz5, ty_st5, ty_cell5, ty_ck5, ty_inf5, ty_sz9, ty_st9, ty_cell9, ty_ck9, ty_inf9, ty_sz12, ty_st12, ty_cell12, ty_ck12, ty_inf12, ty_sz21, ty_st21, ty_cell21, ty_ck21, ty_inf21, ty_sz22, ty_st22, ty_cell22, ty_ck22, ty_inf22, ty_sz23, ty_st23, ty_cell23, ty_ck23, ty_inf23, ty_eq23, ty_f23_0, ty_f23_1, ty_f23_2, ty_f23_3, ty_sz24, ty_st24, ty_cell24, ty_ck24, ty_inf24, ty_eq24, ty_f24_0, ty_f24_1, ty_f24_2, ty_f24_3, ty_sz35, ty_st35, ty_cell35, ty_ck35, ty_inf35, ty_eq35, ty_f35_0, ty_f35_1, ty_f35_2, ty_f35_3, ty_sz36, ty_st36, ty_cell36, ty_ck36, ty_inf36, ty_eq36, ty_f36_0, ty_f36_1, ty_f36_2, ty_f36_3, ty_sz38, ty_st38, ty_cell38, ty_ck38, ty_inf38, ty_eq38, ty_f38_0, ty_f38_1, ty_f38_2, ty_f38_3, ty_sz51, ty_st51, ty_cell51, ty_ck51, ty_inf51, ty_sz52, ty_st52, ty_cell52, ty_ck52, ty_inf52, ty_sz53, ty_st53, ty_cell53, ty_ck53, ty_inf53, ty_eq53, ty_f53_0, ty_f53_1, ty_sz54, ty_st54, ty_cell54, ty_ck54, ty_inf54, ty_eq54, ty_f54_0, ty_f54_1, ty_sz57, ty_st57, ty_cell57, ty_ck57, ty_inf57, ty_sz58, ty_st58, ty_cell58, ty_ck58, ty_inf58, ty_sz59, ty_st59, ty_cell59, ty_ck59, ty_inf59, ty_eq59, ty_f59_0, ty_f59_1, ty_sz60, ty_st60, ty_cell60, ty_ck60, ty_inf60, ty_eq60, ty_f60_0, ty_f60_1, ty_sz78, ty_st78, ty_cell78, ty_ck78, ty_inf78, ty_eq78, ty_f78_0, ty_f78_1, ty_f78_2, ty_sz79, ty_st79, ty_cell79, ty_ck79, ty_inf79, ty_eq79, ty_f79_0, ty_f79_1, ty_f79_2, ty_sz80, ty_st80, ty_cell80, ty_ck80, ty_inf80, ty_eq80, ty_f80_0, ty_f80_1, ty_sz81, ty_st81, ty_cell81, ty_ck81, ty_inf81, ty_eq81, ty_f81_0, ty_f81_1, ty_sz90, ty_st90, ty_cell90, ty_ck90, ty_inf90, ty_eq90, ty_f90_0, ty_f90_1, ty_sz91, ty_st91, ty_cell91, ty_ck91, ty_inf91, ty_eq91, ty_f91_0, ty_f91_1, ty_sz94, ty_st94, ty_cell94, ty_ck94, ty_inf94, ty_eq94, ty_f94_0, ty_f94_1, ty_sz96, ty_st96, ty_cell96, ty_ck96, ty_inf96, ty_eq96, ty_f96_0, ty_f96_1, ty_f96_2, ty_sz108, ty_st108, ty_cell108, ty_ck108, ty_inf108, ty_sz117, ty_st117, ty_cell117, ty_ck117, ty_inf117, Try.underlying2, Try.underlying3, Try.underlying4, Try.underlying5, Try.underlying9, Try.underlying12, Try.underlying21, Try.underlying22, Try.underlying23, Try.underlying24, Try.underlying35, Try.underlying36, Try.underlying38, Try.underlying51, Try.underlying52, Try.underlying53, Try.underlying54, Try.underlying57, Try.underlying58, Try.underlying59, Try.underlying60, Try.underlying78, Try.underlying79, Try.underlying80, Try.underlying81, Try.underlying90, Try.underlying91, Try.underlying94, Try.underlying96, Try.underlying108, Try.underlying117, e_skip, e_label, e_ret, e_exit, e_seq, e_cond, e_block, e_region, seqK_normal, seqK_ret, seqK_exit, blkK_normal, blkK_ret, blkK_exit, condK_some, regK_true, regK_false, e_nil, e_cons, gateK_go, gateK_skip, gateK_ask, pickK_some, exK_some, x_pick, x_move, x_assign, x_alloc, x_box, x_build, x_buildSlice, x_load, x_store, x_binOp, x_unOp, x_convert, x_makeSlice, x_slice, x_fieldAddr, x_field, x_indexAddr, x_extract, x_nilCheck, x_call, x_len, x_append, x_min, oMin, eqAVs, callK_some, done_ret, done_normal, doneO_ret, doneO_normal, endsO_one, endsO_nil, endsO_more, ownAbs, frzAbs, leafs, leafs.leafsL, uniq, idxOf, bk, zipB, Blk.liveB, gate_none, gate_some, gateS_none, gateS_some, gateV_bool, gateV_undef, boolOf, evA, putT, refn, fpD, oBin, oUn, upsl, upl, up, ups, lk, dstsOf, resL, resA, packA, oLoad, oStore, oAlloc, oBox, oBuild, oBuildSlice, oMake, oAppend, oIndexAddr, oFieldAddr, oField, oExtract, oNil, oSlice, oLen, oConvert, rowLoad, fillA, fillR, dk, dks, dkRows, frz, loOf, hiOf, lenOf, rowsOf, nilV, lenV, putAt, views, viewsOk, CK.av, CK.ok, AV.cells, AV.one, Value.oneCell', Value.cells, pureAbs, nrm, nrm.nrmL, hpAt, sh, AV.ren, AV.ren.renL, Blk.ren, fpOf, foot, blkIds, AV.ids, AV.ids.idsL, Op.operands, Call.operands, List.find?_cons, List.find?_nil, Nat.reduceBEq, beq_self_eq_true, List.map_cons, List.map_nil, List.getD_cons_zero, List.getD_cons_succ, List.getD_nil, List.set_cons_zero, List.set_cons_succ, List.length_cons, List.length_nil, List.replicate, List.cons_append, List.nil_append, List.append_nil, List.getElem?_cons_zero, List.getElem?_cons_succ, List.getElem?_toArray, List.getElem?_nil, List.take_zero, List.take_succ_cons, List.take_nil, List.drop_zero, List.drop_succ_cons, List.drop_nil, List.headD_cons, List.tail_cons, List.flatten_cons, List.flatten_nil, List.flatMap_cons, List.flatMap_nil, List.toList_toArray, Array.toList_append, Option.bind_some, Option.map_some, Option.map_none, Option.isSome_some, List.all_nil, List.all_cons, Bool.and_self, Bool.and_true, Bool.true_and, true_and, and_true, ↓reduceIte, List.size_toArray, Bool.false_eq_true, Bool.true_eq_false, false_implies, true_implies, Bool.not_true, Bool.not_false, and_self, implies_true, decide_true, decide_false, Nat.reduceAdd, Nat.reduceMul, Nat.reduceLT, Nat.reduceSub, Nat.reduceLeDiff, Nat.reduceEqDiff, eq_self, ne_eq, not_false_eq_true, false_and, and_false, reduceCtorEq, List.filter_nil, List.filter_cons, List.isEmpty_nil, List.isEmpty_cons, bne_self_eq_false, Nat.reduceBneDiff, Nat.lt_add_one, Nat.zero_lt_succ, List.append_assoc, Nat.zero_le, and_self_iff, Int.reduceToNat, decide_eq_true_eq, decide_eq_false_iff_not, beq_iff_eq, Int.toNat_natCast]
    by_cases hn : ntB link addr k l a w = true
    · simp only [hn, if_true]
      simp only [ntB, Bool.and_eq_true, decide_eq_true_eq] at hn
      obtain ⟨⟨h1, rfl, rfl⟩, h2⟩ := hn
      simp only [h1, h2, Bool.not_true, bne_self_eq_false, if_true, Bool.false_eq_true, if_false]
      exact ⟨_, [], rfl, by (refine ⟨?_, ?_, ?_⟩ <;> simp [packA, hpAt, fitT, fit1, fitH, fitB, emptyB, rn, lk, AV.ren, AV.ren.renL, Blk.ren, blkIds, blkPids, AV.ids, AV.ids.idsL, AV.pids, AV.pids.pidsL, Blk.there])⟩
    · have hn' : ntB link addr k l a w = false := by simpa using hn
      simp only [hn', if_false, Bool.false_eq_true]
      repeat' split
      all_goals first
      | (refine ⟨_, [], rfl, ?_⟩; (refine ⟨?_, ?_, ?_⟩ <;> simp [packA, hpAt, fitT, fit1, fitH, fitB, emptyB, rn, lk, AV.ren, AV.ren.renL, Blk.ren, blkIds, blkPids, AV.ids, AV.ids.idsL, AV.pids, AV.pids.pidsL, Blk.there]); done)
      | (exfalso; simp_all [ntB]; done)
  · cases hg
end Go.Proofs.Ytnnpijjdjdnffaa
