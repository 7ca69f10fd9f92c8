import Derived.Test.YtnnpijjdjdnffaaTb
import Derived.Test.YtnnpijjdjdnffaaSm
import Derived.Test.YtnnpijjdjdnffaaLw3
namespace Go.Proofs.Ytnnpijjdjdnffaa
open Go.RowKit
set_option linter.unusedSimpArgs false

/-! the helpers of the exact laws, over bytes -/
def g_toByteS : PC := fun args => match args with
  | [.l _ rows] => some (∃ xs, rows = rowsOfBytes xs ∧ xs.length ≤ 140737488355328, .own 0, [.sl 5 1 (rowsOfBytes (bytesOfRows rows))])
  | _ => none
theorem toByteS_ok : PureOk Try.prog 34 g_toByteS := by
  refine PureOk.of_retB ⟨_, _, Try.func34, by kernel_rfl, rfl⟩ fun w args vs c r bs hargs hg hc => ?_
  unfold g_toByteS at hg
  split at hg
  · cases hg
    obtain ⟨xs, rfl, hl⟩ := hc
    obtain ⟨u, rfl, h1⟩ := arg_l hargs
    obtain ⟨A, n, c, rfl, hx, _⟩ := rd_of_rep h1
    rw [bytesOf_rows]
    exact ⟨xs, rfl, rfl, toByteS_any A n c xs w hx (by have := rd_len hx; omega)⟩
  · cases hg
def g_eqByteS : PC := fun args => match args with
  | [.l _ rows, .l _ rows'] => some ((∃ xs, rows = rowsOfBytes xs ∧ xs.length ≤ 140737488355328) ∧ (∃ ys, rows' = rowsOfBytes ys ∧ ys.length ≤ 140737488355328), .v (.bool (bytesOfRows rows == bytesOfRows rows')), [])
  | _ => none
theorem eqByteS_ok : PureOk Try.prog 30 g_eqByteS := by
  refine PureOk.of_calls ⟨_, _, Try.func30, by kernel_rfl, rfl⟩ fun w args vs c r bs hargs hg hc => ?_
  unfold g_eqByteS at hg
  split at hg
  · cases hg
    obtain ⟨⟨xs, rfl, hlx⟩, ys, rfl, hly⟩ := hc
    obtain ⟨u, v, rfl, h1, h2⟩ := arg_ll hargs
    obtain ⟨A, n, c, rfl, hx, _⟩ := rd_of_rep h1
    obtain ⟨A', n', c', rfl, hy, _⟩ := rd_of_rep h2
    rw [bytesOf_rows, bytesOf_rows]
    refine ⟨_, rfl, rfl, (eqByteS_any A A' n n' c c' _ xs ys w hx hy (by have := rd_len hx; omega) (by have := rd_len hy; omega)).mono ?_⟩
    rintro e w' ⟨rfl, hb⟩
    exact ⟨rfl, hb⟩
  · cases hg
theorem arg_li {w : World} {sz : Nat} {rows : List (List D)} {a : Value} {vs : List Value} (h : ARel w (Zold w) (fun _ => .none) (fun _ => nilS) [.l sz rows, .v a] vs) : ∃ u, vs = [u, a] ∧ Rep w (Zold w) (.l sz rows) u := by
  obtain ⟨hl, hr⟩ := h
  match vs, hl, hr with
  | [u, x], _, hr =>
    have h1 := hr 0 _ u rfl rfl
    have h2 := hr 1 _ x rfl rfl
    cases h1 with
    | l _ _ _ h1 =>
      cases h2
      exact ⟨u, rfl, h1⟩
/-- who looks for the marks that are there finds them -/
def g_heldByteS : PC := fun args => match args with
  | [.l _ rows, .v (.int .i64 k)] => some (0 ≤ k ∧ k ≤ 1099511627776 ∧ rows.length ≤ 1099511627776 ∧ rows = rowsOfBytes (marks k.toNat rows.length), .v (.int .i64 (k + (rows.length : Int))), [])
  | _ => none
theorem heldByteS_ok : PureOk Try.prog 32 g_heldByteS := by
  refine PureOk.of_calls ⟨_, _, Try.func32, by kernel_rfl, rfl⟩ fun w args vs c r bs hargs hg hc => ?_
  unfold g_heldByteS at hg
  split at hg
  · rename_i sz rows k
    cases hg
    obtain ⟨hk0, hk, hl, he⟩ := hc
    obtain ⟨m, rfl⟩ := Int.eq_ofNat_of_zero_le hk0
    rw [Int.toNat_natCast] at he
    obtain ⟨u, rfl, h1⟩ := arg_li hargs
    generalize hn : rows.length = n at *
    subst he
    obtain ⟨A, n', c, rfl, hx, _⟩ := rd_of_rep h1
    have := rd_len hx
    rw [marks_len] at this
    subst this
    refine ⟨_, rfl, rfl, (heldByteS_any A n' c _ m w hx hl (by omega)).mono ?_⟩
    rintro e w' ⟨rfl, rfl⟩
    exact ⟨by rw [Int.natCast_add], Below.refl _ _⟩
  · cases hg
/-- who marks bytes of his own -/
def g_markByteS : OC := fun args B0 => match args, B0 with
  | [.own r, .v (.int .i64 k)], [.sl T sz rows] => some (r = 0 ∧ T = 5 ∧ sz = 1 ∧ (∃ xs, rows = rowsOfBytes xs) ∧ rows.length ≤ 1099511627776 ∧ 0 ≤ k ∧ k ≤ 1099511627776,
      .v (.int .i64 (k + (rows.length : Int))), [.sl T sz (rowsOfBytes (marks k.toNat rows.length))], [])
  | _, _ => none
theorem marks_set (xs : List UInt8) (m j : Nat) (hj : j < xs.length) : (rowsOfBytes (marks m j ++ xs.drop j)).set j (D.v (Value.int IntKind.u8 (IntKind.u8.wrap (((m + j : Nat)) : Int))) :: List.drop 1 ((rowsOfBytes (marks m j ++ xs.drop j)).getD j [])) = rowsOfBytes (marks m (j + 1) ++ xs.drop (j + 1)) := by
  rw [rows_set]
  congr 1
  rw [List.set_append_right _ _ (by rw [marks_len]; omega), marks_len, Nat.sub_self, List.drop_eq_getElem_cons hj, List.set_cons_zero, marks, List.append_assoc]
  have e : toU8 ((m + j : Nat) : Int) = UInt8.ofNat ((m + j) % 256) := by
    unfold toU8
    rw [IntKind.wrap_u8]
    congr 1
  rw [e]; rfl
set_option maxRecDepth 100000 in
theorem markByteS_ok : OwnOk Try.prog 31 g_markByteS := by
  refine OwnOk.of_vc (G := []) (by simp) mixed Try.func31 (by kernel_rfl) rfl ?_
  intro args B0 cnd r B1 bs hg hc hlive
  unfold g_markByteS at hg
  split at hg
  · rename_i r k T sz rows
    cases hg
    obtain ⟨rfl, rfl, rfl, ⟨xs, rfl⟩, hl, hk0, hk⟩ := hc
    obtain ⟨m, rfl⟩ := Int.eq_ofNat_of_zero_le hk0
    rw [rowsOf_len] at hl ⊢
    rw [Int.toNat_natCast]
    refine ⟨⟨by simp [likeBs, likeB, rowsOf_len, marks_len], by simp [Blk.liveB, blkIds, AV.ids.idsL, AV.ids], by simp [AV.ids]⟩, _, rfl, fun w Z s vs h => h, ?_⟩
    clear hlive
    simp (maxSteps := 3000000) only [Try.f31, ty_sz2, ty_st2, ty_cell2, ty_ck2, ty_inf2, ty_sz3, ty_st3, ty_cell3, ty_ck3, ty_inf3, ty_sz4, ty_st4, ty_cell4, ty_ck4, ty_inf4, ty_sz5, ty_st5, ty_cell5, ty_ck5, ty_inf5, ty_sz9, ty_st9, ty_cell9, ty_ck9, ty_inf9, ty_sz12, ty_st12, ty_cell12, ty_ck12, ty_inf12, ty_sz21, ty_st21, ty_cell21, ty_ck21, ty_inf21, ty_sz22, ty_st22, ty_cell22, ty_ck22, ty_inf22, ty_sz23, ty_st23, ty_cell23, ty_ck23, ty_inf23, ty_eq23, ty_f23_0, ty_f23_1, ty_f23_2, ty_f23_3, ty_sz24, ty_st24, ty_cell24, ty_ck24, ty_inf24, ty_eq24, ty_f24_0, ty_f24_1, ty_f24_2, ty_f24_3, ty_sz35, ty_st35, ty_cell35, ty_ck35, ty_inf35, ty_eq35, ty_f35_0, ty_f35_1, ty_f35_2, ty_f35_3, ty_sz36, ty_st36, ty_cell36, ty_ck36, ty_inf36, ty_eq36, ty_f36_0, ty_f36_1, ty_f36_2, ty_f36_3, ty_sz38, ty_st38, ty_cell38, ty_ck38, ty_inf38, ty_eq38, ty_f38_0, ty_f38_1, ty_f38_2, ty_f38_3, ty_sz51, ty_st51, ty_cell51, ty_ck51, ty_inf51, ty_sz52, ty_st52, ty_cell52, ty_ck52, ty_inf52, ty_sz53, ty_st53, ty_cell53, ty_ck53, ty_inf53, ty_eq53, ty_f53_0, ty_f53_1, ty_sz54, ty_st54, ty_cell54, ty_ck54, ty_inf54, ty_eq54, ty_f54_0, ty_f54_1, ty_sz57, ty_st57, ty_cell57, ty_ck57, ty_inf57, ty_sz58, ty_st58, ty_cell58, ty_ck58, ty_inf58, ty_sz59, ty_st59, ty_cell59, ty_ck59, ty_inf59, ty_eq59, ty_f59_0, ty_f59_1, ty_sz60, ty_st60, ty_cell60, ty_ck60, ty_inf60, ty_eq60, ty_f60_0, ty_f60_1, ty_sz78, ty_st78, ty_cell78, ty_ck78, ty_inf78, ty_eq78, ty_f78_0, ty_f78_1, ty_f78_2, ty_sz79, ty_st79, ty_cell79, ty_ck79, ty_inf79, ty_eq79, ty_f79_0, ty_f79_1, ty_f79_2, ty_sz80, ty_st80, ty_cell80, ty_ck80, ty_inf80, ty_eq80, ty_f80_0, ty_f80_1, ty_sz81, ty_st81, ty_cell81, ty_ck81, ty_inf81, ty_eq81, ty_f81_0, ty_f81_1, ty_sz90, ty_st90, ty_cell90, ty_ck90, ty_inf90, ty_eq90, ty_f90_0, ty_f90_1, ty_sz91, ty_st91, ty_cell91, ty_ck91, ty_inf91, ty_eq91, ty_f91_0, ty_f91_1, ty_sz94, ty_st94, ty_cell94, ty_ck94, ty_inf94, ty_eq94, ty_f94_0, ty_f94_1, ty_sz96, ty_st96, ty_cell96, ty_ck96, ty_inf96, ty_eq96, ty_f96_0, ty_f96_1, ty_f96_2, ty_sz108, ty_st108, ty_cell108, ty_ck108, ty_inf108, ty_sz117, ty_st117, ty_cell117, ty_ck117, ty_inf117, Try.underlying2, Try.underlying3, Try.underlying4, Try.underlying5, Try.underlying9, Try.underlying12, Try.underlying21, Try.underlying22, Try.underlying23, Try.underlying24, Try.underlying35, Try.underlying36, Try.underlying38, Try.underlying51, Try.underlying52, Try.underlying53, Try.underlying54, Try.underlying57, Try.underlying58, Try.underlying59, Try.underlying60, Try.underlying78, Try.underlying79, Try.underlying80, Try.underlying81, Try.underlying90, Try.underlying91, Try.underlying94, Try.underlying96, Try.underlying108, Try.underlying117, e_skip, e_label, e_ret, e_exit, e_seq, e_cond, e_block, e_region, seqK_normal, seqK_ret, seqK_exit, blkK_normal, blkK_ret, blkK_exit, condK_some, regK_true, regK_false, e_nil, e_cons, gateK_go, gateK_skip, gateK_ask, pickK_some, exK_some, x_pick, x_move, x_assign, x_alloc, x_box, x_build, x_buildSlice, x_load, x_store, x_binOp, x_unOp, x_convert, x_makeSlice, x_slice, x_fieldAddr, x_field, x_indexAddr, x_extract, x_nilCheck, x_call, x_len, x_append, x_min, oMin, eqAVs, callK_some, done_ret, done_normal, doneO_ret, doneO_normal, endsO_one, endsO_nil, endsO_more, ownAbs, frzAbs, leafs, leafs.leafsL, uniq, idxOf, bk, zipB, Blk.liveB, gate_none, gate_some, gateS_none, gateS_some, gateV_bool, gateV_undef, boolOf, evA, putT, refn, fpD, oBin, oUn, upsl, upl, up, ups, lk, dstsOf, resL, resA, packA, oLoad, oStore, oAlloc, oBox, oBuild, oBuildSlice, oMake, oAppend, oIndexAddr, oFieldAddr, oField, oExtract, oNil, oSlice, oLen, oConvert, rowLoad, fillA, fillR, dk, dks, dkRows, frz, loOf, hiOf, lenOf, rowsOf, nilV, lenV, putAt, views, viewsOk, CK.av, CK.ok, AV.cells, AV.one, Value.oneCell', Value.cells, pureAbs, nrm, nrm.nrmL, hpAt, sh, AV.ren, AV.ren.renL, Blk.ren, fpOf, foot, blkIds, AV.ids, AV.ids.idsL, Op.operands, Call.operands, List.find?_cons, List.find?_nil, Nat.reduceBEq, beq_self_eq_true, List.map_cons, List.map_nil, List.getD_cons_zero, List.getD_cons_succ, List.getD_nil, List.set_cons_zero, List.set_cons_succ, List.length_cons, List.length_nil, List.replicate, List.cons_append, List.nil_append, List.append_nil, List.getElem?_cons_zero, List.getElem?_cons_succ, List.getElem?_toArray, List.getElem?_nil, List.take_zero, List.take_succ_cons, List.take_nil, List.drop_zero, List.drop_succ_cons, List.drop_nil, List.headD_cons, List.tail_cons, List.flatten_cons, List.flatten_nil, List.flatMap_cons, List.flatMap_nil, List.toList_toArray, Array.toList_append, Option.bind_some, Option.map_some, Option.map_none, Option.isSome_some, List.all_nil, List.all_cons, Bool.and_self, Bool.and_true, Bool.true_and, true_and, and_true, ↓reduceIte, List.size_toArray, Bool.false_eq_true, Bool.true_eq_false, false_implies, true_implies, Bool.not_true, Bool.not_false, and_self, implies_true, decide_true, decide_false, Nat.reduceAdd, Nat.reduceMul, Nat.reduceLT, Nat.reduceSub, Nat.reduceLeDiff, Nat.reduceEqDiff, eq_self, ne_eq, not_false_eq_true, false_and, and_false, reduceCtorEq, List.filter_nil, List.filter_cons, List.isEmpty_nil, List.isEmpty_cons, bne_self_eq_false, Nat.reduceBneDiff, Nat.lt_add_one, Nat.zero_lt_succ, List.append_assoc, Nat.zero_le, and_self_iff, Int.reduceToNat, decide_eq_true_eq, decide_eq_false_iff_not, beq_iff_eq, Int.toNat_natCast]
    refine e_loop _ _ _ _ _ _ _ _ (fun j : Nat => [.own 0, .v (.int .i64 ((m + j : Nat) : Int)), .any, .any, .any, .v (.int .i64 (j : Int))] ++ List.replicate (Try.f31.ntmps - 6) .any) (fun j => [(0, .sl 5 1 (rowsOfBytes (marks m j ++ xs.drop j)))]) (fun j => j ≤ xs.length) (fun j => xs.length - j) 1 (fun j => by simp) ⟨0, ?_⟩ fun j hj => ?_
    · simp only [Try.f31]
      rw [marks, List.nil_append, List.drop_zero, Nat.add_zero]
      exact ⟨[], by omega, by (refine ⟨?_, ?_, ?_⟩ <;> simp [fitT, fit1, fitH, fitB, emptyB, rn, lk, AV.ren, AV.ren.renL, Blk.ren, blkIds, blkPids, AV.ids, AV.ids.idsL, AV.pids, AV.pids.pidsL, Blk.there]), by simp [keepIds, rn, List.range, List.range.loop]⟩
    · have w2 : IntKind.i64.wrap ((j : Int) + 1) = ((j + 1 : Nat) : Int) := by rw [wrap_id] <;> omega
      have w3 : IntKind.i64.wrap (((m + j : Nat) : Int) + 1) = ((m + (j + 1) : Nat) : Int) := by rw [wrap_id] <;> omega
      have hlen : (marks m j ++ xs.drop j).length = xs.length := by rw [List.length_append, marks_len, List.length_drop]; omega
      simp (maxSteps := 3000000) only [Try.f31, rowsOf_len, ty_sz2, ty_st2, ty_cell2, ty_ck2, ty_inf2, ty_sz3, ty_st3, ty_cell3, ty_ck3, ty_inf3, ty_sz4, ty_st4, ty_cell4, ty_ck4, ty_inf4, ty_sz5, ty_st5, ty_cell5, ty_ck5, ty_inf5, ty_sz9, ty_st9, ty_cell9, ty_ck9, ty_inf9, ty_sz12, ty_st12, ty_cell12, ty_ck12, ty_inf12, ty_sz21, ty_st21, ty_cell21, ty_ck21, ty_inf21, ty_sz22, ty_st22, ty_cell22, ty_ck22, ty_inf22, ty_sz23, ty_st23, ty_cell23, ty_ck23, ty_inf23, ty_eq23, ty_f23_0, ty_f23_1, ty_f23_2, ty_f23_3, ty_sz24, ty_st24, ty_cell24, ty_ck24, ty_inf24, ty_eq24, ty_f24_0, ty_f24_1, ty_f24_2, ty_f24_3, ty_sz35, ty_st35, ty_cell35, ty_ck35, ty_inf35, ty_eq35, ty_f35_0, ty_f35_1, ty_f35_2, ty_f35_3, ty_sz36, ty_st36, ty_cell36, ty_ck36, ty_inf36, ty_eq36, ty_f36_0, ty_f36_1, ty_f36_2, ty_f36_3, ty_sz38, ty_st38, ty_cell38, ty_ck38, ty_inf38, ty_eq38, ty_f38_0, ty_f38_1, ty_f38_2, ty_f38_3, ty_sz51, ty_st51, ty_cell51, ty_ck51, ty_inf51, ty_sz52, ty_st52, ty_cell52, ty_ck52, ty_inf52, ty_sz53, ty_st53, ty_cell53, ty_ck53, ty_inf53, ty_eq53, ty_f53_0, ty_f53_1, ty_sz54, ty_st54, ty_cell54, ty_ck54, ty_inf54, ty_eq54, ty_f54_0, ty_f54_1, ty_sz57, ty_st57, ty_cell57, ty_ck57, ty_inf57, ty_sz58, ty_st58, ty_cell58, ty_ck58, ty_inf58, ty_sz59, ty_st59, ty_cell59, ty_ck59, ty_inf59, ty_eq59, ty_f59_0, ty_f59_1, ty_sz60, ty_st60, ty_cell60, ty_ck60, ty_inf60, ty_eq60, ty_f60_0, ty_f60_1, ty_sz78, ty_st78, ty_cell78, ty_ck78, ty_inf78, ty_eq78, ty_f78_0, ty_f78_1, ty_f78_2, ty_sz79, ty_st79, ty_cell79, ty_ck79, ty_inf79, ty_eq79, ty_f79_0, ty_f79_1, ty_f79_2, ty_sz80, ty_st80, ty_cell80, ty_ck80, ty_inf80, ty_eq80, ty_f80_0, ty_f80_1, ty_sz81, ty_st81, ty_cell81, ty_ck81, ty_inf81, ty_eq81, ty_f81_0, ty_f81_1, ty_sz90, ty_st90, ty_cell90, ty_ck90, ty_inf90, ty_eq90, ty_f90_0, ty_f90_1, ty_sz91, ty_st91, ty_cell91, ty_ck91, ty_inf91, ty_eq91, ty_f91_0, ty_f91_1, ty_sz94, ty_st94, ty_cell94, ty_ck94, ty_inf94, ty_eq94, ty_f94_0, ty_f94_1, ty_sz96, ty_st96, ty_cell96, ty_ck96, ty_inf96, ty_eq96, ty_f96_0, ty_f96_1, ty_f96_2, ty_sz108, ty_st108, ty_cell108, ty_ck108, ty_inf108, ty_sz117, ty_st117, ty_cell117, ty_ck117, ty_inf117, Try.underlying2, Try.underlying3, Try.underlying4, Try.underlying5, Try.underlying9, Try.underlying12, Try.underlying21, Try.underlying22, Try.underlying23, Try.underlying24, Try.underlying35, Try.underlying36, Try.underlying38, Try.underlying51, Try.underlying52, Try.underlying53, Try.underlying54, Try.underlying57, Try.underlying58, Try.underlying59, Try.underlying60, Try.underlying78, Try.underlying79, Try.underlying80, Try.underlying81, Try.underlying90, Try.underlying91, Try.underlying94, Try.underlying96, Try.underlying108, Try.underlying117, e_skip, e_label, e_ret, e_exit, e_seq, e_cond, e_block, e_region, seqK_normal, seqK_ret, seqK_exit, blkK_normal, blkK_ret, blkK_exit, condK_some, regK_true, regK_false, e_nil, e_cons, gateK_go, gateK_skip, gateK_ask, pickK_some, exK_some, x_pick, x_move, x_assign, x_alloc, x_box, x_build, x_buildSlice, x_load, x_store, x_binOp, x_unOp, x_convert, x_makeSlice, x_slice, x_fieldAddr, x_field, x_indexAddr, x_extract, x_nilCheck, x_call, x_len, x_append, x_min, oMin, eqAVs, callK_some, done_ret, done_normal, doneO_ret, doneO_normal, endsO_one, endsO_nil, endsO_more, ownAbs, frzAbs, leafs, leafs.leafsL, uniq, idxOf, bk, zipB, Blk.liveB, gate_none, gate_some, gateS_none, gateS_some, gateV_bool, gateV_undef, boolOf, evA, putT, refn, fpD, oBin, oUn, upsl, upl, up, ups, lk, dstsOf, resL, resA, packA, oLoad, oStore, oAlloc, oBox, oBuild, oBuildSlice, oMake, oAppend, oIndexAddr, oFieldAddr, oField, oExtract, oNil, oSlice, oLen, oConvert, rowLoad, fillA, fillR, dk, dks, dkRows, frz, loOf, hiOf, lenOf, rowsOf, nilV, lenV, putAt, views, viewsOk, CK.av, CK.ok, AV.cells, AV.one, Value.oneCell', Value.cells, pureAbs, nrm, nrm.nrmL, hpAt, sh, AV.ren, AV.ren.renL, Blk.ren, fpOf, foot, blkIds, AV.ids, AV.ids.idsL, Op.operands, Call.operands, List.find?_cons, List.find?_nil, Nat.reduceBEq, beq_self_eq_true, List.map_cons, List.map_nil, List.getD_cons_zero, List.getD_cons_succ, List.getD_nil, List.set_cons_zero, List.set_cons_succ, List.length_cons, List.length_nil, List.replicate, List.cons_append, List.nil_append, List.append_nil, List.getElem?_cons_zero, List.getElem?_cons_succ, List.getElem?_toArray, List.getElem?_nil, List.take_zero, List.take_succ_cons, List.take_nil, List.drop_zero, List.drop_succ_cons, List.drop_nil, List.headD_cons, List.tail_cons, List.flatten_cons, List.flatten_nil, List.flatMap_cons, List.flatMap_nil, List.toList_toArray, Array.toList_append, Option.bind_some, Option.map_some, Option.map_none, Option.isSome_some, List.all_nil, List.all_cons, Bool.and_self, Bool.and_true, Bool.true_and, true_and, and_true, ↓reduceIte, List.size_toArray, Bool.false_eq_true, Bool.true_eq_false, false_implies, true_implies, Bool.not_true, Bool.not_false, and_self, implies_true, decide_true, decide_false, Nat.reduceAdd, Nat.reduceMul, Nat.reduceLT, Nat.reduceSub, Nat.reduceLeDiff, Nat.reduceEqDiff, eq_self, ne_eq, not_false_eq_true, false_and, and_false, reduceCtorEq, List.filter_nil, List.filter_cons, List.isEmpty_nil, List.isEmpty_cons, bne_self_eq_false, Nat.reduceBneDiff, Nat.lt_add_one, Nat.zero_lt_succ, List.append_assoc, Nat.zero_le, and_self_iff, Int.reduceToNat, decide_eq_true_eq, decide_eq_false_iff_not, beq_iff_eq, Int.toNat_natCast, loopK_normal, loopK_exit, loopK_ret, w2, w3, hlen]
      by_cases h : (j : Int) < (xs.length : Int)
      · rw [if_pos h, marks_set xs m j (by omega)]
        exact ⟨by omega, by omega, j + 1, [], by omega, by omega, by (refine ⟨?_, ?_, ?_⟩ <;> simp [fitT, fit1, fitH, fitB, emptyB, rn, lk, AV.ren, AV.ren.renL, Blk.ren, blkIds, blkPids, AV.ids, AV.ids.idsL, AV.pids, AV.pids.pidsL, Blk.there]), by simp [keepIds, rn, List.range, List.range.loop]⟩
      · rw [if_neg h]
        obtain rfl : j = xs.length := by omega
        rw [List.drop_length, List.append_nil, Int.natCast_add]
        exact ⟨[], by (refine ⟨?_, ?_, ?_⟩ <;> simp [fitT, fit1, fitH, fitB, emptyB, rn, lk, AV.ren, AV.ren.renL, Blk.ren, blkIds, blkPids, AV.ids, AV.ids.idsL, AV.pids, AV.pids.pidsL, Blk.there]), by simp [keepIds, rn, List.range, List.range.loop]⟩
  · cases hg

/-! the exact laws of queries -/
def g_q1 : PC := fun args => match args with
  | [.agg [.v (.int .i64 k), .v (.int .i64 l), .v (.int .i64 a), .v (.int .i64 w)]] => some (True, .v (.bool true), [])
  | _ => none
def lawq1 : List (FuncId × Abs) := [(26, pureAbs g_toQuery), (27, pureAbs g_queryOk), (25, pureAbs g_queryOk)]
theorem lawq1_ok : ∀ p ∈ lawq1, CallOk Try.prog p.1 p.2 := by
  intro p hp
  simp only [lawq1, List.mem_cons, List.not_mem_nil, or_false] at hp
  rcases hp with rfl | rfl | rfl
  · exact toQuery_ok.call
  · exact implQueryOk_ok.call
  · exact specQueryOk_ok.call
set_option maxRecDepth 100000 in
theorem lawExactQueryOk_ok : PureOk Try.prog 5 g_q1 := by
  refine PureOk.of_vc (G := lawq1) lawq1_ok mixed Try.func5 (by kernel_rfl) rfl ?_
  intro args cnd r bs hg hc
  unfold g_q1 at hg
  split at hg
  · rename_i k l a w
    cases hg
    refine ⟨⟨rfl, by simp, by simp [AV.ids, AV.ids.idsL]⟩, _, rfl, fun w vs h => h, ?_⟩
    simp (maxSteps := 3000000) only [Try.f5, lawq1, g_toQuery, g_queryOk, bne_self_eq_false, ty_sz2, ty_st2, ty_cell2, ty_ck2, ty_inf2, ty_sz3, ty_st3, ty_cell3, ty_ck3, ty_inf3, ty_sz4, ty_st4, ty_cell4, ty_ck4, ty_inf4, ty_sz5, ty_st5, ty_cell5, ty_ck5, ty_inf5, ty_sz9, ty_st9, ty_cell9, ty_ck9, ty_inf9, ty_sz12, ty_st12, ty_cell12, ty_ck12, ty_inf12, ty_sz21, ty_st21, ty_cell21, ty_ck21, ty_inf21, ty_sz22, ty_st22, ty_cell22, ty_ck22, ty_inf22, ty_sz23, ty_st23, ty_cell23, ty_ck23, ty_inf23, ty_eq23, ty_f23_0, ty_f23_1, ty_f23_2, ty_f23_3, ty_sz24, ty_st24, ty_cell24, ty_ck24, ty_inf24, ty_eq24, ty_f24_0, ty_f24_1, ty_f24_2, ty_f24_3, ty_sz35, ty_st35, ty_cell35, ty_ck35, ty_inf35, ty_eq35, ty_f35_0, ty_f35_1, ty_f35_2, ty_f35_3, ty_sz36, ty_st36, ty_cell36, ty_ck36, ty_inf36, ty_eq36, ty_f36_0, ty_f36_1, ty_f36_2, ty_f36_3, ty_sz38, ty_st38, ty_cell38, ty_ck38, ty_inf38, ty_eq38, ty_f38_0, ty_f38_1, ty_f38_2, ty_f38_3, ty_sz51, ty_st51, ty_cell51, ty_ck51, ty_inf51, ty_sz52, ty_st52, ty_cell52, ty_ck52, ty_inf52, ty_sz53, ty_st53, ty_cell53, ty_ck53, ty_inf53, ty_eq53, ty_f53_0, ty_f53_1, ty_sz54, ty_st54, ty_cell54, ty_ck54, ty_inf54, ty_eq54, ty_f54_0, ty_f54_1, ty_sz57, ty_st57, ty_cell57, ty_ck57, ty_inf57, ty_sz58, ty_st58, ty_cell58, ty_ck58, ty_inf58, ty_sz59, ty_st59, ty_cell59, ty_ck59, ty_inf59, ty_eq59, ty_f59_0, ty_f59_1, ty_sz60, ty_st60, ty_cell60, ty_ck60, ty_inf60, ty_eq60, ty_f60_0, ty_f60_1, ty_sz78, ty_st78, ty_cell78, ty_ck78, ty_inf78, ty_eq78, ty_f78_0, ty_f78_1, ty_f78_2, ty_sz79, ty_st79, ty_cell79, ty_ck79, ty_inf79, ty_eq79, ty_f79_0, ty_f79_1, ty_f79_2, ty_sz80, ty_st80, ty_cell80, ty_ck80, ty_inf80, ty_eq80, ty_f80_0, ty_f80_1, ty_sz81, ty_st81, ty_cell81, ty_ck81, ty_inf81, ty_eq81, ty_f81_0, ty_f81_1, ty_sz90, ty_st90, ty_cell90, ty_ck90, ty_inf90, ty_eq90, ty_f90_0, ty_f90_1, ty_sz91, ty_st91, ty_cell91, ty_ck91, ty_inf91, ty_eq91, ty_f91_0, ty_f91_1, ty_sz94, ty_st94, ty_cell94, ty_ck94, ty_inf94, ty_eq94, ty_f94_0, ty_f94_1, ty_sz96, ty_st96, ty_cell96, ty_ck96, ty_inf96, ty_eq96, ty_f96_0, ty_f96_1, ty_f96_2, ty_sz108, ty_st108, ty_cell108, ty_ck108, ty_inf108, ty_sz117, ty_st117, ty_cell117, ty_ck117, ty_inf117, Try.underlying2, Try.underlying3, Try.underlying4, Try.underlying5, Try.underlying9, Try.underlying12, Try.underlying21, Try.underlying22, Try.underlying23, Try.underlying24, Try.underlying35, Try.underlying36, Try.underlying38, Try.underlying51, Try.underlying52, Try.underlying53, Try.underlying54, Try.underlying57, Try.underlying58, Try.underlying59, Try.underlying60, Try.underlying78, Try.underlying79, Try.underlying80, Try.underlying81, Try.underlying90, Try.underlying91, Try.underlying94, Try.underlying96, Try.underlying108, Try.underlying117, e_skip, e_label, e_ret, e_exit, e_seq, e_cond, e_block, e_region, seqK_normal, seqK_ret, seqK_exit, blkK_normal, blkK_ret, blkK_exit, condK_some, regK_true, regK_false, e_nil, e_cons, gateK_go, gateK_skip, gateK_ask, pickK_some, exK_some, x_pick, x_move, x_assign, x_alloc, x_box, x_build, x_buildSlice, x_load, x_store, x_binOp, x_unOp, x_convert, x_makeSlice, x_slice, x_fieldAddr, x_field, x_indexAddr, x_extract, x_nilCheck, x_call, x_len, x_append, x_min, oMin, eqAVs, callK_some, done_ret, done_normal, doneO_ret, doneO_normal, endsO_one, endsO_nil, endsO_more, ownAbs, frzAbs, leafs, leafs.leafsL, uniq, idxOf, bk, zipB, Blk.liveB, gate_none, gate_some, gateS_none, gateS_some, gateV_bool, gateV_undef, boolOf, evA, putT, refn, fpD, oBin, oUn, upsl, upl, up, ups, lk, dstsOf, resL, resA, packA, oLoad, oStore, oAlloc, oBox, oBuild, oBuildSlice, oMake, oAppend, oIndexAddr, oFieldAddr, oField, oExtract, oNil, oSlice, oLen, oConvert, rowLoad, fillA, fillR, dk, dks, dkRows, frz, loOf, hiOf, lenOf, rowsOf, nilV, lenV, putAt, views, viewsOk, CK.av, CK.ok, AV.cells, AV.one, Value.oneCell', Value.cells, pureAbs, nrm, nrm.nrmL, hpAt, sh, AV.ren, AV.ren.renL, Blk.ren, fpOf, foot, blkIds, AV.ids, AV.ids.idsL, Op.operands, Call.operands, List.find?_cons, List.find?_nil, Nat.reduceBEq, beq_self_eq_true, List.map_cons, List.map_nil, List.getD_cons_zero, List.getD_cons_succ, List.getD_nil, List.set_cons_zero, List.set_cons_succ, List.length_cons, List.length_nil, List.replicate, List.cons_append, List.nil_append, List.append_nil, List.getElem?_cons_zero, List.getElem?_cons_succ, List.getElem?_toArray, List.getElem?_nil, List.take_zero, List.take_succ_cons, List.take_nil, List.drop_zero, List.drop_succ_cons, List.drop_nil, List.headD_cons, List.tail_cons, List.flatten_cons, List.flatten_nil, List.flatMap_cons, List.flatMap_nil, List.toList_toArray, Array.toList_append, Option.bind_some, Option.map_some, Option.map_none, Option.isSome_some, List.all_nil, List.all_cons, Bool.and_self, Bool.and_true, Bool.true_and, true_and, and_true, ↓reduceIte, List.size_toArray, Bool.false_eq_true, Bool.true_eq_false, false_implies, true_implies, Bool.not_true, Bool.not_false, and_self, implies_true, decide_true, decide_false, Nat.reduceAdd, Nat.reduceMul, Nat.reduceLT, Nat.reduceSub, Nat.reduceLeDiff, Nat.reduceEqDiff, eq_self, ne_eq, not_false_eq_true, false_and, and_false, reduceCtorEq, List.filter_nil, List.filter_cons, List.isEmpty_nil, List.isEmpty_cons, bne_self_eq_false, Nat.reduceBneDiff, Nat.lt_add_one, Nat.zero_lt_succ, List.append_assoc, Nat.zero_le, and_self_iff, Int.reduceToNat, decide_eq_true_eq, decide_eq_false_iff_not, beq_iff_eq, Int.toNat_natCast]
    exact ⟨_, [], rfl, by (refine ⟨?_, ?_, ?_⟩ <;> simp [packA, hpAt, fitT, fit1, fitH, fitB, emptyB, rn, lk, AV.ren, AV.ren.renL, Blk.ren, blkIds, blkPids, AV.ids, AV.ids.idsL, AV.pids, AV.pids.pidsL, Blk.there])⟩
  · cases hg
def lawq2 : List (FuncId × Abs) := [(26, pureAbs g_toQuery), (29, pureAbs g_queryBytes), (28, pureAbs g_queryBytes), (30, pureAbs g_eqByteS), (31, ownAbs g_markByteS), (32, pureAbs g_heldByteS)]
theorem lawq2_ok : ∀ p ∈ lawq2, CallOk Try.prog p.1 p.2 := by
  intro p hp
  simp only [lawq2, List.mem_cons, List.not_mem_nil, or_false] at hp
  rcases hp with rfl | rfl | rfl | rfl | rfl | rfl
  · exact toQuery_ok.call
  · exact implQueryBytes_ok.call
  · exact specQueryBytes_ok.call
  · exact eqByteS_ok.call
  · exact markByteS_ok.call
  · exact heldByteS_ok.call
theorem qbV_len (k l a w : Int) : (qbV k l a w).length ≤ 10 := by
  have h3 := bytesOf_len a 2
  have h4 := bytesOf_len w 2
  unfold qbV
  split
  · simp only [List.length_append, List.length_cons, List.length_nil]; omega
  · simp
set_option maxRecDepth 100000 in
theorem lawExactQueryBytes_ok : PureOk Try.prog 6 g_q1 := by
  refine PureOk.of_vc (G := lawq2) lawq2_ok mixed Try.func6 (by kernel_rfl) rfl ?_
  intro args cnd r bs hg hc
  unfold g_q1 at hg
  split at hg
  · rename_i k l a w
    cases hg
    refine ⟨⟨rfl, by simp, by simp [AV.ids, AV.ids.idsL]⟩, _, rfl, fun w vs h => h, ?_⟩
    simp (maxSteps := 3000000) only [Try.f6, lawq2, g_toQuery, g_queryBytes, g_eqByteS, g_markByteS, g_heldByteS, bytesOf_rows, rowsOf_len, marks_len, bne_self_eq_false, ty_sz2, ty_st2, ty_cell2, ty_ck2, ty_inf2, ty_sz3, ty_st3, ty_cell3, ty_ck3, ty_inf3, ty_sz4, ty_st4, ty_cell4, ty_ck4, ty_inf4, ty_sz5, ty_st5, ty_cell5, ty_ck5, ty_inf5, ty_sz9, ty_st9, ty_cell9, ty_ck9, ty_inf9, ty_sz12, ty_st12, ty_cell12, ty_ck12, ty_inf12, ty_sz21, ty_st21, ty_cell21, ty_ck21, ty_inf21, ty_sz22, ty_st22, ty_cell22, ty_ck22, ty_inf22, ty_sz23, ty_st23, ty_cell23, ty_ck23, ty_inf23, ty_eq23, ty_f23_0, ty_f23_1, ty_f23_2, ty_f23_3, ty_sz24, ty_st24, ty_cell24, ty_ck24, ty_inf24, ty_eq24, ty_f24_0, ty_f24_1, ty_f24_2, ty_f24_3, ty_sz35, ty_st35, ty_cell35, ty_ck35, ty_inf35, ty_eq35, ty_f35_0, ty_f35_1, ty_f35_2, ty_f35_3, ty_sz36, ty_st36, ty_cell36, ty_ck36, ty_inf36, ty_eq36, ty_f36_0, ty_f36_1, ty_f36_2, ty_f36_3, ty_sz38, ty_st38, ty_cell38, ty_ck38, ty_inf38, ty_eq38, ty_f38_0, ty_f38_1, ty_f38_2, ty_f38_3, ty_sz51, ty_st51, ty_cell51, ty_ck51, ty_inf51, ty_sz52, ty_st52, ty_cell52, ty_ck52, ty_inf52, ty_sz53, ty_st53, ty_cell53, ty_ck53, ty_inf53, ty_eq53, ty_f53_0, ty_f53_1, ty_sz54, ty_st54, ty_cell54, ty_ck54, ty_inf54, ty_eq54, ty_f54_0, ty_f54_1, ty_sz57, ty_st57, ty_cell57, ty_ck57, ty_inf57, ty_sz58, ty_st58, ty_cell58, ty_ck58, ty_inf58, ty_sz59, ty_st59, ty_cell59, ty_ck59, ty_inf59, ty_eq59, ty_f59_0, ty_f59_1, ty_sz60, ty_st60, ty_cell60, ty_ck60, ty_inf60, ty_eq60, ty_f60_0, ty_f60_1, ty_sz78, ty_st78, ty_cell78, ty_ck78, ty_inf78, ty_eq78, ty_f78_0, ty_f78_1, ty_f78_2, ty_sz79, ty_st79, ty_cell79, ty_ck79, ty_inf79, ty_eq79, ty_f79_0, ty_f79_1, ty_f79_2, ty_sz80, ty_st80, ty_cell80, ty_ck80, ty_inf80, ty_eq80, ty_f80_0, ty_f80_1, ty_sz81, ty_st81, ty_cell81, ty_ck81, ty_inf81, ty_eq81, ty_f81_0, ty_f81_1, ty_sz90, ty_st90, ty_cell90, ty_ck90, ty_inf90, ty_eq90, ty_f90_0, ty_f90_1, ty_sz91, ty_st91, ty_cell91, ty_ck91, ty_inf91, ty_eq91, ty_f91_0, ty_f91_1, ty_sz94, ty_st94, ty_cell94, ty_ck94, ty_inf94, ty_eq94, ty_f94_0, ty_f94_1, ty_sz96, ty_st96, ty_cell96, ty_ck96, ty_inf96, ty_eq96, ty_f96_0, ty_f96_1, ty_f96_2, ty_sz108, ty_st108, ty_cell108, ty_ck108, ty_inf108, ty_sz117, ty_st117, ty_cell117, ty_ck117, ty_inf117, Try.underlying2, Try.underlying3, Try.underlying4, Try.underlying5, Try.underlying9, Try.underlying12, Try.underlying21, Try.underlying22, Try.underlying23, Try.underlying24, Try.underlying35, Try.underlying36, Try.underlying38, Try.underlying51, Try.underlying52, Try.underlying53, Try.underlying54, Try.underlying57, Try.underlying58, Try.underlying59, Try.underlying60, Try.underlying78, Try.underlying79, Try.underlying80, Try.underlying81, Try.underlying90, Try.underlying91, Try.underlying94, Try.underlying96, Try.underlying108, Try.underlying117, e_skip, e_label, e_ret, e_exit, e_seq, e_cond, e_block, e_region, seqK_normal, seqK_ret, seqK_exit, blkK_normal, blkK_ret, blkK_exit, condK_some, regK_true, regK_false, e_nil, e_cons, gateK_go, gateK_skip, gateK_ask, pickK_some, exK_some, x_pick, x_move, x_assign, x_alloc, x_box, x_build, x_buildSlice, x_load, x_store, x_binOp, x_unOp, x_convert, x_makeSlice, x_slice, x_fieldAddr, x_field, x_indexAddr, x_extract, x_nilCheck, x_call, x_len, x_append, x_min, oMin, eqAVs, callK_some, done_ret, done_normal, doneO_ret, doneO_normal, endsO_one, endsO_nil, endsO_more, ownAbs, frzAbs, leafs, leafs.leafsL, uniq, idxOf, bk, zipB, Blk.liveB, gate_none, gate_some, gateS_none, gateS_some, gateV_bool, gateV_undef, boolOf, evA, putT, refn, fpD, oBin, oUn, upsl, upl, up, ups, lk, dstsOf, resL, resA, packA, oLoad, oStore, oAlloc, oBox, oBuild, oBuildSlice, oMake, oAppend, oIndexAddr, oFieldAddr, oField, oExtract, oNil, oSlice, oLen, oConvert, rowLoad, fillA, fillR, dk, dks, dkRows, frz, loOf, hiOf, lenOf, rowsOf, nilV, lenV, putAt, views, viewsOk, CK.av, CK.ok, AV.cells, AV.one, Value.oneCell', Value.cells, pureAbs, nrm, nrm.nrmL, hpAt, sh, AV.ren, AV.ren.renL, Blk.ren, fpOf, foot, blkIds, AV.ids, AV.ids.idsL, Op.operands, Call.operands, List.find?_cons, List.find?_nil, Nat.reduceBEq, beq_self_eq_true, List.map_cons, List.map_nil, List.getD_cons_zero, List.getD_cons_succ, List.getD_nil, List.set_cons_zero, List.set_cons_succ, List.length_cons, List.length_nil, List.replicate, List.cons_append, List.nil_append, List.append_nil, List.getElem?_cons_zero, List.getElem?_cons_succ, List.getElem?_toArray, List.getElem?_nil, List.take_zero, List.take_succ_cons, List.take_nil, List.drop_zero, List.drop_succ_cons, List.drop_nil, List.headD_cons, List.tail_cons, List.flatten_cons, List.flatten_nil, List.flatMap_cons, List.flatMap_nil, List.toList_toArray, Array.toList_append, Option.bind_some, Option.map_some, Option.map_none, Option.isSome_some, List.all_nil, List.all_cons, Bool.and_self, Bool.and_true, Bool.true_and, true_and, and_true, ↓reduceIte, List.size_toArray, Bool.false_eq_true, Bool.true_eq_false, false_implies, true_implies, Bool.not_true, Bool.not_false, and_self, implies_true, decide_true, decide_false, Nat.reduceAdd, Nat.reduceMul, Nat.reduceLT, Nat.reduceSub, Nat.reduceLeDiff, Nat.reduceEqDiff, eq_self, ne_eq, not_false_eq_true, false_and, and_false, reduceCtorEq, List.filter_nil, List.filter_cons, List.isEmpty_nil, List.isEmpty_cons, bne_self_eq_false, Nat.reduceBneDiff, Nat.lt_add_one, Nat.zero_lt_succ, List.append_assoc, Nat.zero_le, and_self_iff, Int.reduceToNat, decide_eq_true_eq, decide_eq_false_iff_not, beq_iff_eq, Int.toNat_natCast]
    have hl := qbV_len k l a w
    have hn : ¬ (1 + ((qbV k l a w).length : Int) < 0) := by omega
    rw [if_neg hn, if_neg hn]
    refine ⟨⟨_, rfl, by omega⟩, ⟨⟨_, rfl⟩, by omega, by omega, by omega⟩, ⟨by omega, by omega, by omega⟩, ⟨_, rfl, by omega⟩, ⟨by omega, by omega, by omega⟩, _, [], rfl, ?_⟩
    (refine ⟨?_, ?_, ?_⟩ <;> simp [packA, hpAt, fitT, fit1, fitH, fitB, emptyB, rn, lk, AV.ren, AV.ren.renL, Blk.ren, blkIds, blkPids, AV.ids, AV.ids.idsL, AV.pids, AV.pids.pidsL, Blk.there])
  · cases hg
def lawq3 : List (FuncId × Abs) := [(34, pureAbs g_toByteS), (35, pureAbs g_queryFrom), (33, pureAbs g_queryFrom), (30, pureAbs g_eqByteS), (36, pureAbs g_eqQuery)]
theorem lawq3_ok : ∀ p ∈ lawq3, CallOk Try.prog p.1 p.2 := by
  intro p hp
  simp only [lawq3, List.mem_cons, List.not_mem_nil, or_false] at hp
  rcases hp with rfl | rfl | rfl | rfl | rfl
  · exact toByteS_ok.call
  · exact implQueryFrom_ok.call
  · exact specQueryFrom_ok.call
  · exact eqByteS_ok.call
  · exact eqQuery_ok.call
set_option maxRecDepth 100000 in
theorem lawExactQueryFrom_ok : PureOk Try.prog 7 g_true := by
  refine PureOk.of_vc (G := lawq3) lawq3_ok mixed Try.func7 (by kernel_rfl) rfl ?_
  intro args cnd r bs hg hc
  unfold g_true at hg
  split at hg
  · rename_i sz rows
    cases hg
    obtain ⟨xs, rfl⟩ := hc
    refine ⟨⟨rfl, by simp, by simp [AV.ids, AV.ids.idsL]⟩, [.l 1 (rowsOfBytes xs)], rfl, fun w vs h => CvL.ok (.cons (.l _ _ _ (rowsOf_w xs)) .nil) h, ?_⟩
    simp (maxSteps := 3000000) only [Try.f7, lawq3, g_toByteS, g_queryFrom, g_eqByteS, g_eqQuery, bytesOf_rows, rowsOf_len, bne_self_eq_false, ty_sz2, ty_st2, ty_cell2, ty_ck2, ty_inf2, ty_sz3, ty_st3, ty_cell3, ty_ck3, ty_inf3, ty_sz4, ty_st4, ty_cell4, ty_ck4, ty_inf4, ty_sz5, ty_st5, ty_cell5, ty_ck5, ty_inf5, ty_sz9, ty_st9, ty_cell9, ty_ck9, ty_inf9, ty_sz12, ty_st12, ty_cell12, ty_ck12, ty_inf12, ty_sz21, ty_st21, ty_cell21, ty_ck21, ty_inf21, ty_sz22, ty_st22, ty_cell22, ty_ck22, ty_inf22, ty_sz23, ty_st23, ty_cell23, ty_ck23, ty_inf23, ty_eq23, ty_f23_0, ty_f23_1, ty_f23_2, ty_f23_3, ty_sz24, ty_st24, ty_cell24, ty_ck24, ty_inf24, ty_eq24, ty_f24_0, ty_f24_1, ty_f24_2, ty_f24_3, ty_sz35, ty_st35, ty_cell35, ty_ck35, ty_inf35, ty_eq35, ty_f35_0, ty_f35_1, ty_f35_2, ty_f35_3, ty_sz36, ty_st36, ty_cell36, ty_ck36, ty_inf36, ty_eq36, ty_f36_0, ty_f36_1, ty_f36_2, ty_f36_3, ty_sz38, ty_st38, ty_cell38, ty_ck38, ty_inf38, ty_eq38, ty_f38_0, ty_f38_1, ty_f38_2, ty_f38_3, ty_sz51, ty_st51, ty_cell51, ty_ck51, ty_inf51, ty_sz52, ty_st52, ty_cell52, ty_ck52, ty_inf52, ty_sz53, ty_st53, ty_cell53, ty_ck53, ty_inf53, ty_eq53, ty_f53_0, ty_f53_1, ty_sz54, ty_st54, ty_cell54, ty_ck54, ty_inf54, ty_eq54, ty_f54_0, ty_f54_1, ty_sz57, ty_st57, ty_cell57, ty_ck57, ty_inf57, ty_sz58, ty_st58, ty_cell58, ty_ck58, ty_inf58, ty_sz59, ty_st59, ty_cell59, ty_ck59, ty_inf59, ty_eq59, ty_f59_0, ty_f59_1, ty_sz60, ty_st60, ty_cell60, ty_ck60, ty_inf60, ty_eq60, ty_f60_0, ty_f60_1, ty_sz78, ty_st78, ty_cell78, ty_ck78, ty_inf78, ty_eq78, ty_f78_0, ty_f78_1, ty_f78_2, ty_sz79, ty_st79, ty_cell79, ty_ck79, ty_inf79, ty_eq79, ty_f79_0, ty_f79_1, ty_f79_2, ty_sz80, ty_st80, ty_cell80, ty_ck80, ty_inf80, ty_eq80, ty_f80_0, ty_f80_1, ty_sz81, ty_st81, ty_cell81, ty_ck81, ty_inf81, ty_eq81, ty_f81_0, ty_f81_1, ty_sz90, ty_st90, ty_cell90, ty_ck90, ty_inf90, ty_eq90, ty_f90_0, ty_f90_1, ty_sz91, ty_st91, ty_cell91, ty_ck91, ty_inf91, ty_eq91, ty_f91_0, ty_f91_1, ty_sz94, ty_st94, ty_cell94, ty_ck94, ty_inf94, ty_eq94, ty_f94_0, ty_f94_1, ty_sz96, ty_st96, ty_cell96, ty_ck96, ty_inf96, ty_eq96, ty_f96_0, ty_f96_1, ty_f96_2, ty_sz108, ty_st108, ty_cell108, ty_ck108, ty_inf108, ty_sz117, ty_st117, ty_cell117, ty_ck117, ty_inf117, Try.underlying2, Try.underlying3, Try.underlying4, Try.underlying5, Try.underlying9, Try.underlying12, Try.underlying21, Try.underlying22, Try.underlying23, Try.underlying24, Try.underlying35, Try.underlying36, Try.underlying38, Try.underlying51, Try.underlying52, Try.underlying53, Try.underlying54, Try.underlying57, Try.underlying58, Try.underlying59, Try.underlying60, Try.underlying78, Try.underlying79, Try.underlying80, Try.underlying81, Try.underlying90, Try.underlying91, Try.underlying94, Try.underlying96, Try.underlying108, Try.underlying117, e_skip, e_label, e_ret, e_exit, e_seq, e_cond, e_block, e_region, seqK_normal, seqK_ret, seqK_exit, blkK_normal, blkK_ret, blkK_exit, condK_some, regK_true, regK_false, e_nil, e_cons, gateK_go, gateK_skip, gateK_ask, pickK_some, exK_some, x_pick, x_move, x_assign, x_alloc, x_box, x_build, x_buildSlice, x_load, x_store, x_binOp, x_unOp, x_convert, x_makeSlice, x_slice, x_fieldAddr, x_field, x_indexAddr, x_extract, x_nilCheck, x_call, x_len, x_append, x_min, oMin, eqAVs, callK_some, done_ret, done_normal, doneO_ret, doneO_normal, endsO_one, endsO_nil, endsO_more, ownAbs, frzAbs, leafs, leafs.leafsL, uniq, idxOf, bk, zipB, Blk.liveB, gate_none, gate_some, gateS_none, gateS_some, gateV_bool, gateV_undef, boolOf, evA, putT, refn, fpD, oBin, oUn, upsl, upl, up, ups, lk, dstsOf, resL, resA, packA, oLoad, oStore, oAlloc, oBox, oBuild, oBuildSlice, oMake, oAppend, oIndexAddr, oFieldAddr, oField, oExtract, oNil, oSlice, oLen, oConvert, rowLoad, fillA, fillR, dk, dks, dkRows, frz, loOf, hiOf, lenOf, rowsOf, nilV, lenV, putAt, views, viewsOk, CK.av, CK.ok, AV.cells, AV.one, Value.oneCell', Value.cells, pureAbs, nrm, nrm.nrmL, hpAt, sh, AV.ren, AV.ren.renL, Blk.ren, fpOf, foot, blkIds, AV.ids, AV.ids.idsL, Op.operands, Call.operands, List.find?_cons, List.find?_nil, Nat.reduceBEq, beq_self_eq_true, List.map_cons, List.map_nil, List.getD_cons_zero, List.getD_cons_succ, List.getD_nil, List.set_cons_zero, List.set_cons_succ, List.length_cons, List.length_nil, List.replicate, List.cons_append, List.nil_append, List.append_nil, List.getElem?_cons_zero, List.getElem?_cons_succ, List.getElem?_toArray, List.getElem?_nil, List.take_zero, List.take_succ_cons, List.take_nil, List.drop_zero, List.drop_succ_cons, List.drop_nil, List.headD_cons, List.tail_cons, List.flatten_cons, List.flatten_nil, List.flatMap_cons, List.flatMap_nil, List.toList_toArray, Array.toList_append, Option.bind_some, Option.map_some, Option.map_none, Option.isSome_some, List.all_nil, List.all_cons, Bool.and_self, Bool.and_true, Bool.true_and, true_and, and_true, ↓reduceIte, List.size_toArray, Bool.false_eq_true, Bool.true_eq_false, false_implies, true_implies, Bool.not_true, Bool.not_false, and_self, implies_true, decide_true, decide_false, Nat.reduceAdd, Nat.reduceMul, Nat.reduceLT, Nat.reduceSub, Nat.reduceLeDiff, Nat.reduceEqDiff, eq_self, ne_eq, not_false_eq_true, false_and, and_false, reduceCtorEq, List.filter_nil, List.filter_cons, List.isEmpty_nil, List.isEmpty_cons, bne_self_eq_false, Nat.reduceBneDiff, Nat.lt_add_one, Nat.zero_lt_succ, List.append_assoc, Nat.zero_le, and_self_iff, Int.reduceToNat, decide_eq_true_eq, decide_eq_false_iff_not, beq_iff_eq, Int.toNat_natCast]
    split
    · (refine ⟨_, [], rfl, ⟨⟨⟨?_, rfl, rfl⟩, trivial⟩, by simp [hpAt, fitH], by simp [hpAt]⟩⟩; refine congrArg (fun b => AV.v (Value.bool b)) ?_; first | rfl | (rw [Bool.eq_iff_iff]; simp only [decide_eq_true_eq, frB, inZ, Bool.false_eq_true, beq_eq_false_iff_ne, beq_iff_eq, ne_eq, decide_eq_false_iff_not, Bool.not_eq_eq_eq_not, Bool.not_true, Bool.not_false, false_iff, iff_false, true_iff, iff_true] at *; omega))
    · refine ⟨⟨_, rfl, by omega⟩, ⟨_, rfl, by omega⟩, ⟨_, rfl, by omega⟩, ⟨_, rfl, by omega⟩, ⟨_, rfl, by omega⟩, ⟨_, rfl, by omega⟩, _, [], rfl, ?_⟩
      (refine ⟨?_, ?_, ?_⟩ <;> simp [packA, hpAt, fitT, fit1, fitH, fitB, emptyB, rn, lk, AV.ren, AV.ren.renL, Blk.ren, blkIds, blkPids, AV.ids, AV.ids.idsL, AV.pids, AV.pids.pidsL, Blk.there])
  · cases hg
def lawq4 : List (FuncId × Abs) := [(26, pureAbs g_toQuery), (38, pureAbs g_nearTells), (37, pureAbs g_nearTells), (36, pureAbs g_eqQuery)]
theorem lawq4_ok : ∀ p ∈ lawq4, CallOk Try.prog p.1 p.2 := by
  intro p hp
  simp only [lawq4, List.mem_cons, List.not_mem_nil, or_false] at hp
  rcases hp with rfl | rfl | rfl | rfl
  · exact toQuery_ok.call
  · exact implNearTells_ok.call
  · exact specNearTells_ok.call
  · exact eqQuery_ok.call
def g_q4 : PC := fun args => match args with
  | [.v (.int .i64 link), .v (.int .i64 addr), .agg [.v (.int .i64 k), .v (.int .i64 l), .v (.int .i64 a), .v (.int .i64 w)]] => some (True, .v (.bool true), [])
  | _ => none
set_option maxRecDepth 100000 in
theorem lawExactNearTells_ok : PureOk Try.prog 8 g_q4 := by
  refine PureOk.of_vc (G := lawq4) lawq4_ok mixed Try.func8 (by kernel_rfl) rfl ?_
  intro args cnd r bs hg hc
  unfold g_q4 at hg
  split at hg
  · rename_i link addr k l a w
    cases hg
    refine ⟨⟨rfl, by simp, by simp [AV.ids, AV.ids.idsL]⟩, _, rfl, fun w vs h => h, ?_⟩
    simp (maxSteps := 3000000) only [Try.f8, lawq4, g_toQuery, g_nearTells, g_eqQuery, bne_self_eq_false, ty_sz2, ty_st2, ty_cell2, ty_ck2, ty_inf2, ty_sz3, ty_st3, ty_cell3, ty_ck3, ty_inf3, ty_sz4, ty_st4, ty_cell4, ty_ck4, ty_inf4, ty_sz5, ty_st5, ty_cell5, ty_ck5, ty_inf5, ty_sz9, ty_st9, ty_cell9, ty_ck9, ty_inf9, ty_sz12, ty_st12, ty_cell12, ty_ck12, ty_inf12, ty_sz21, ty_st21, ty_cell21, ty_ck21, ty_inf21, ty_sz22, ty_st22, ty_cell22, ty_ck22, ty_inf22, ty_sz23, ty_st23, ty_cell23, ty_ck23, ty_inf23, ty_eq23, ty_f23_0, ty_f23_1, ty_f23_2, ty_f23_3, ty_sz24, ty_st24, ty_cell24, ty_ck24, ty_inf24, ty_eq24, ty_f24_0, ty_f24_1, ty_f24_2, ty_f24_3, ty_sz35, ty_st35, ty_cell35, ty_ck35, ty_inf35, ty_eq35, ty_f35_0, ty_f35_1, ty_f35_2, ty_f35_3, ty_sz36, ty_st36, ty_cell36, ty_ck36, ty_inf36, ty_eq36, ty_f36_0, ty_f36_1, ty_f36_2, ty_f36_3, ty_sz38, ty_st38, ty_cell38, ty_ck38, ty_inf38, ty_eq38, ty_f38_0, ty_f38_1, ty_f38_2, ty_f38_3, ty_sz51, ty_st51, ty_cell51, ty_ck51, ty_inf51, ty_sz52, ty_st52, ty_cell52, ty_ck52, ty_inf52, ty_sz53, ty_st53, ty_cell53, ty_ck53, ty_inf53, ty_eq53, ty_f53_0, ty_f53_1, ty_sz54, ty_st54, ty_cell54, ty_ck54, ty_inf54, ty_eq54, ty_f54_0, ty_f54_1, ty_sz57, ty_st57, ty_cell57, ty_ck57, ty_inf57, ty_sz58, ty_st58, ty_cell58, ty_ck58, ty_inf58, ty_sz59, ty_st59, ty_cell59, ty_ck59, ty_inf59, ty_eq59, ty_f59_0, ty_f59_1, ty_sz60, ty_st60, ty_cell60, ty_ck60, ty_inf60, ty_eq60, ty_f60_0, ty_f60_1, ty_sz78, ty_st78, ty_cell78, ty_ck78, ty_inf78, ty_eq78, ty_f78_0, ty_f78_1, ty_f78_2, ty_sz79, ty_st79, ty_cell79, ty_ck79, ty_inf79, ty_eq79, ty_f79_0, ty_f79_1, ty_f79_2, ty_sz80, ty_st80, ty_cell80, ty_ck80, ty_inf80, ty_eq80, ty_f80_0, ty_f80_1, ty_sz81, ty_st81, ty_cell81, ty_ck81, ty_inf81, ty_eq81, ty_f81_0, ty_f81_1, ty_sz90, ty_st90, ty_cell90, ty_ck90, ty_inf90, ty_eq90, ty_f90_0, ty_f90_1, ty_sz91, ty_st91, ty_cell91, ty_ck91, ty_inf91, ty_eq91, ty_f91_0, ty_f91_1, ty_sz94, ty_st94, ty_cell94, ty_ck94, ty_inf94, ty_eq94, ty_f94_0, ty_f94_1, ty_sz96, ty_st96, ty_cell96, ty_ck96, ty_inf96, ty_eq96, ty_f96_0, ty_f96_1, ty_f96_2, ty_sz108, ty_st108, ty_cell108, ty_ck108, ty_inf108, ty_sz117, ty_st117, ty_cell117, ty_ck117, ty_inf117, Try.underlying2, Try.underlying3, Try.underlying4, Try.underlying5, Try.underlying9, Try.underlying12, Try.underlying21, Try.underlying22, Try.underlying23, Try.underlying24, Try.underlying35, Try.underlying36, Try.underlying38, Try.underlying51, Try.underlying52, Try.underlying53, Try.underlying54, Try.underlying57, Try.underlying58, Try.underlying59, Try.underlying60, Try.underlying78, Try.underlying79, Try.underlying80, Try.underlying81, Try.underlying90, Try.underlying91, Try.underlying94, Try.underlying96, Try.underlying108, Try.underlying117, e_skip, e_label, e_ret, e_exit, e_seq, e_cond, e_block, e_region, seqK_normal, seqK_ret, seqK_exit, blkK_normal, blkK_ret, blkK_exit, condK_some, regK_true, regK_false, e_nil, e_cons, gateK_go, gateK_skip, gateK_ask, pickK_some, exK_some, x_pick, x_move, x_assign, x_alloc, x_box, x_build, x_buildSlice, x_load, x_store, x_binOp, x_unOp, x_convert, x_makeSlice, x_slice, x_fieldAddr, x_field, x_indexAddr, x_extract, x_nilCheck, x_call, x_len, x_append, x_min, oMin, eqAVs, callK_some, done_ret, done_normal, doneO_ret, doneO_normal, endsO_one, endsO_nil, endsO_more, ownAbs, frzAbs, leafs, leafs.leafsL, uniq, idxOf, bk, zipB, Blk.liveB, gate_none, gate_some, gateS_none, gateS_some, gateV_bool, gateV_undef, boolOf, evA, putT, refn, fpD, oBin, oUn, upsl, upl, up, ups, lk, dstsOf, resL, resA, packA, oLoad, oStore, oAlloc, oBox, oBuild, oBuildSlice, oMake, oAppend, oIndexAddr, oFieldAddr, oField, oExtract, oNil, oSlice, oLen, oConvert, rowLoad, fillA, fillR, dk, dks, dkRows, frz, loOf, hiOf, lenOf, rowsOf, nilV, lenV, putAt, views, viewsOk, CK.av, CK.ok, AV.cells, AV.one, Value.oneCell', Value.cells, pureAbs, nrm, nrm.nrmL, hpAt, sh, AV.ren, AV.ren.renL, Blk.ren, fpOf, foot, blkIds, AV.ids, AV.ids.idsL, Op.operands, Call.operands, List.find?_cons, List.find?_nil, Nat.reduceBEq, beq_self_eq_true, List.map_cons, List.map_nil, List.getD_cons_zero, List.getD_cons_succ, List.getD_nil, List.set_cons_zero, List.set_cons_succ, List.length_cons, List.length_nil, List.replicate, List.cons_append, List.nil_append, List.append_nil, List.getElem?_cons_zero, List.getElem?_cons_succ, List.getElem?_toArray, List.getElem?_nil, List.take_zero, List.take_succ_cons, List.take_nil, List.drop_zero, List.drop_succ_cons, List.drop_nil, List.headD_cons, List.tail_cons, List.flatten_cons, List.flatten_nil, List.flatMap_cons, List.flatMap_nil, List.toList_toArray, Array.toList_append, Option.bind_some, Option.map_some, Option.map_none, Option.isSome_some, List.all_nil, List.all_cons, Bool.and_self, Bool.and_true, Bool.true_and, true_and, and_true, ↓reduceIte, List.size_toArray, Bool.false_eq_true, Bool.true_eq_false, false_implies, true_implies, Bool.not_true, Bool.not_false, and_self, implies_true, decide_true, decide_false, Nat.reduceAdd, Nat.reduceMul, Nat.reduceLT, Nat.reduceSub, Nat.reduceLeDiff, Nat.reduceEqDiff, eq_self, ne_eq, not_false_eq_true, false_and, and_false, reduceCtorEq, List.filter_nil, List.filter_cons, List.isEmpty_nil, List.isEmpty_cons, bne_self_eq_false, Nat.reduceBneDiff, Nat.lt_add_one, Nat.zero_lt_succ, List.append_assoc, Nat.zero_le, and_self_iff, Int.reduceToNat, decide_eq_true_eq, decide_eq_false_iff_not, beq_iff_eq, Int.toNat_natCast]
    exact ⟨_, [], rfl, by (refine ⟨?_, ?_, ?_⟩ <;> simp [packA, hpAt, fitT, fit1, fitH, fitB, emptyB, rn, lk, AV.ren, AV.ren.renL, Blk.ren, blkIds, blkPids, AV.ids, AV.ids.idsL, AV.pids, AV.pids.pidsL, Blk.there])⟩
  · cases hg

/-- a value as itself -/
theorem arel_v {w : World} {Z : Nat → Prop} {L : Nat → Blk} {s : Nat → Value} (x : Value) : AVR w Z L s (.v x) x := .v x
theorem arel_nil {w : World} {Z : Nat → Prop} {L : Nat → Blk} {s : Nat → Value} : ARel w Z L s [] [] := ⟨rfl, fun i x y hx => by simp at hx⟩
theorem arel_cons {w : World} {Z : Nat → Prop} {L : Nat → Blk} {s : Nat → Value} {a : AV} {x : Value} {xa : List AV} {xs : List Value} (h : AVR w Z L s a x) (k : ARel w Z L s xa xs) : ARel w Z L s (a :: xa) (x :: xs) :=
  ⟨by simp [k.1], fun i y z hy hz => by
    cases i with
    | zero => simp at hy hz; subst hy; subst hz; exact h
    | succ i => exact k.2 i y z (by simpa using hy) (by simpa using hz)⟩
theorem avr_agg {w : World} {Z : Nat → Prop} {L : Nat → Blk} {s : Nat → Value} {xa : List AV} {xs : List Value} (k : ARel w Z L s xa xs) : AVR w Z L s (.agg xa) (.agg xs.toArray) := .agg _ _ k.1 k.2
theorem avr_q (w : World) (k l a q : Int) : AVR w (Zold w) (fun _ => .none) (fun _ => nilS) (.agg [.v (.int .i64 k), .v (.int .i64 l), .v (.int .i64 a), .v (.int .i64 q)]) (.agg #[.int .i64 k, .int .i64 l, .int .i64 a, .int .i64 q]) :=
  avr_agg (xs := [_, _, _, _]) (arel_cons (.v _) (arel_cons (.v _) (arel_cons (.v _) (arel_cons (.v _) arel_nil))))
theorem walk_ExactQueryOk (k l a q : Int) (w : World) :
    Calls Try.prog 5 #[.agg #[.int .i64 k, .int .i64 l, .int .i64 a, .int .i64 q]] w fun e w' => e = .returned (.bool true) ∧ Below w.heap.size w w' :=
  lawExactQueryOk_ok.walk (vs := [_]) (arel_cons (avr_q w k l a q) arel_nil) rfl trivial
theorem walk_ExactQueryBytes (k l a q : Int) (w : World) :
    Calls Try.prog 6 #[.agg #[.int .i64 k, .int .i64 l, .int .i64 a, .int .i64 q]] w fun e w' => e = .returned (.bool true) ∧ Below w.heap.size w w' :=
  lawExactQueryBytes_ok.walk (vs := [_]) (arel_cons (avr_q w k l a q) arel_nil) rfl trivial
theorem walk_ExactQueryFrom (A : Option Addr) (n c : Nat) (xs : List UInt8) (w : World) (h : Rd w w.heap.size A n (bv xs)) (hc : n ≤ c) :
    Calls Try.prog 7 #[.slice A n c] w fun e w' => e = .returned (.bool true) ∧ Below w.heap.size w w' :=
  lawExactQueryFrom_ok.walk (vs := [_]) (arel_cons (.l _ _ _ (rep_of_rd h hc)) arel_nil) rfl ⟨xs, rfl⟩
theorem walk_ExactNearTells (b c k l a q : Int) (w : World) (_ : (Lit.int .i64 b).wf = true) (_ : (Lit.int .i64 c).wf = true) :
    Calls Try.prog 8 #[.int .i64 b, .int .i64 c, .agg #[.int .i64 k, .int .i64 l, .int .i64 a, .int .i64 q]] w fun e w' => e = .returned (.bool true) ∧ Below w.heap.size w w' :=
  lawExactNearTells_ok.walk (vs := [_, _, _]) (arel_cons (.v _) (arel_cons (.v _) (arel_cons (avr_q w k l a q) arel_nil))) rfl trivial

end Go.Proofs.Ytnnpijjdjdnffaa
