import Derived.Test.YtdanjfnobanehaaTb
import Derived.Test.YtdanjfnobanehaaSm
import Derived.Test.YtdanjfnobanehaaLw
set_option linter.unusedVariables false
set_option linter.unusedSimpArgs false
namespace Go.Proofs.Ytdanjfnobanehaa
open Go.RowKit
set_option linter.unusedSimpArgs false

/-! the helpers of the exact laws, over bytes -/
def g_toByteS : PC := fun args => match args with
  | [.l _ rows] => some (∃ xs, rows = rowsOfBytes xs ∧ xs.length ≤ 140737488355328, .own 0, [.sl 5 1 (rowsOfBytes (bytesOfRows rows))])
  | _ => none
theorem toByteS_ok : PureOk Try.prog 44 g_toByteS := by
  refine PureOk.of_retB ⟨_, _, Try.func44, by kernel_rfl, rfl⟩ fun w args vs c r bs hargs hg hc => ?_
  unfold g_toByteS at hg
  split at hg
  · cases hg
    obtain ⟨xs, rfl, hl⟩ := hc
    obtain ⟨u, rfl, h1⟩ := arg_l hargs
    obtain ⟨A, n, c, rfl, hx, _⟩ := rd_of_rep h1
    rw [bytesOf_rows]
    exact ⟨xs, rfl, rfl, toByteS_any A n c xs w hx (by have := rd_len hx; omega)⟩
  · cases hg
def g_eqByteS : PC := fun args => match args with
  | [.l _ rows, .l _ rows'] => some ((∃ xs, rows = rowsOfBytes xs ∧ xs.length ≤ 140737488355328) ∧ (∃ ys, rows' = rowsOfBytes ys ∧ ys.length ≤ 140737488355328), .v (.bool (bytesOfRows rows == bytesOfRows rows')), [])
  | _ => none
theorem eqByteS_ok : PureOk Try.prog 46 g_eqByteS := by
  refine PureOk.of_calls ⟨_, _, Try.func46, by kernel_rfl, rfl⟩ fun w args vs c r bs hargs hg hc => ?_
  unfold g_eqByteS at hg
  split at hg
  · cases hg
    obtain ⟨⟨xs, rfl, hlx⟩, ys, rfl, hly⟩ := hc
    obtain ⟨u, v, rfl, h1, h2⟩ := arg_ll hargs
    obtain ⟨A, n, c, rfl, hx, _⟩ := rd_of_rep h1
    obtain ⟨A', n', c', rfl, hy, _⟩ := rd_of_rep h2
    rw [bytesOf_rows, bytesOf_rows]
    refine ⟨_, rfl, rfl, (eqByteS_any A A' n n' c c' _ xs ys w hx hy (by have := rd_len hx; omega) (by have := rd_len hy; omega)).mono ?_⟩
    rintro e w' ⟨rfl, hb⟩
    exact ⟨rfl, hb⟩
  · cases hg
theorem arg_li {w : World} {sz : Nat} {rows : List (List D)} {a : Value} {vs : List Value} (h : ARel w (Zold w) (fun _ => .none) (fun _ => nilS) [.l sz rows, .v a] vs) : ∃ u, vs = [u, a] ∧ Rep w (Zold w) (.l sz rows) u := by
  obtain ⟨hl, hr⟩ := h
  match vs, hl, hr with
  | [u, x], _, hr =>
    have h1 := hr 0 _ u rfl rfl
    have h2 := hr 1 _ x rfl rfl
    cases h1 with
    | l _ _ _ h1 =>
      cases h2
      exact ⟨u, rfl, h1⟩
/-- who looks for the marks that are there finds them -/
def g_heldByteS : PC := fun args => match args with
  | [.l _ rows, .v (.int .i64 k)] => some (0 ≤ k ∧ k ≤ 1099511627776 ∧ rows.length ≤ 1099511627776 ∧ rows = rowsOfBytes (marks k.toNat rows.length), .v (.int .i64 (k + (rows.length : Int))), [])
  | _ => none
theorem heldByteS_ok : PureOk Try.prog 58 g_heldByteS := by
  refine PureOk.of_calls ⟨_, _, Try.func58, by kernel_rfl, rfl⟩ fun w args vs c r bs hargs hg hc => ?_
  unfold g_heldByteS at hg
  split at hg
  · rename_i sz rows k
    cases hg
    obtain ⟨hk0, hk, hl, he⟩ := hc
    obtain ⟨m, rfl⟩ := Int.eq_ofNat_of_zero_le hk0
    rw [Int.toNat_natCast] at he
    obtain ⟨u, rfl, h1⟩ := arg_li hargs
    generalize hn : rows.length = n at *
    subst he
    obtain ⟨A, n', c, rfl, hx, _⟩ := rd_of_rep h1
    have := rd_len hx
    rw [marks_len] at this
    subst this
    refine ⟨_, rfl, rfl, (heldByteS_any A n' c _ m w hx hl (by omega)).mono ?_⟩
    rintro e w' ⟨rfl, rfl⟩
    exact ⟨by rw [Int.natCast_add], Below.refl _ _⟩
  · cases hg
/-- who marks bytes of his own -/
def g_markByteS : OC := fun args B0 => match args, B0 with
  | [.own r, .v (.int .i64 k)], [.sl T sz rows] => some (r = 0 ∧ T = 5 ∧ sz = 1 ∧ (∃ xs, rows = rowsOfBytes xs) ∧ rows.length ≤ 1099511627776 ∧ 0 ≤ k ∧ k ≤ 1099511627776,
      .v (.int .i64 (k + (rows.length : Int))), [.sl T sz (rowsOfBytes (marks k.toNat rows.length))], [])
  | _, _ => none
theorem marks_set (xs : List UInt8) (m j : Nat) (hj : j < xs.length) : (rowsOfBytes (marks m j ++ xs.drop j)).set j (D.v (Value.int IntKind.u8 (IntKind.u8.wrap (((m + j : Nat)) : Int))) :: List.drop 1 ((rowsOfBytes (marks m j ++ xs.drop j)).getD j [])) = rowsOfBytes (marks m (j + 1) ++ xs.drop (j + 1)) := by
  rw [rows_set]
  congr 1
  rw [List.set_append_right _ _ (by rw [marks_len]; omega), marks_len, Nat.sub_self, List.drop_eq_getElem_cons hj, List.set_cons_zero, marks, List.append_assoc]
  have e : toU8 ((m + j : Nat) : Int) = UInt8.ofNat ((m + j) % 256) := by
    unfold toU8
    rw [IntKind.wrap_u8]
    congr 1
  rw [e]; rfl
set_option maxRecDepth 100000 in
theorem markByteS_ok : OwnOk Try.prog 48 g_markByteS := by
  refine OwnOk.of_vc (G := []) (by simp) mixed Try.func48 (by kernel_rfl) rfl ?_
  intro args B0 cnd r B1 bs hg hc hlive
  unfold g_markByteS at hg
  split at hg
  · rename_i r k T sz rows
    cases hg
    obtain ⟨rfl, rfl, rfl, ⟨xs, rfl⟩, hl, hk0, hk⟩ := hc
    obtain ⟨m, rfl⟩ := Int.eq_ofNat_of_zero_le hk0
    rw [rowsOf_len] at hl ⊢
    rw [Int.toNat_natCast]
    refine ⟨⟨by simp [likeBs, likeB, rowsOf_len, marks_len], by simp [Blk.liveB, blkIds, AV.ids.idsL, AV.ids], by simp [AV.ids]⟩, _, rfl, fun w Z s vs h => h, ?_⟩
    clear hlive
    simp (maxSteps := 3000000) only [Try.f48, ty_sz2, ty_st2, ty_cell2, ty_ck2, ty_inf2, ty_sz3, ty_st3, ty_cell3, ty_ck3, ty_inf3, ty_sz4, ty_st4, ty_cell4, ty_ck4, ty_inf4, ty_sz5, ty_st5, ty_cell5, ty_ck5, ty_inf5, ty_sz9, ty_st9, ty_cell9, ty_ck9, ty_inf9, ty_sz12, ty_st12, ty_cell12, ty_ck12, ty_inf12, ty_sz21, ty_st21, ty_cell21, ty_ck21, ty_inf21, ty_sz22, ty_st22, ty_cell22, ty_ck22, ty_inf22, ty_sz23, ty_st23, ty_cell23, ty_ck23, ty_inf23, ty_sz24, ty_st24, ty_cell24, ty_ck24, ty_inf24, ty_sz25, ty_st25, ty_cell25, ty_ck25, ty_inf25, ty_eq25, ty_f25_0, ty_f25_1, ty_sz26, ty_st26, ty_cell26, ty_ck26, ty_inf26, ty_eq26, ty_f26_0, ty_f26_1, ty_sz35, ty_st35, ty_cell35, ty_ck35, ty_inf35, ty_eq35, ty_f35_0, ty_f35_1, ty_sz36, ty_st36, ty_cell36, ty_ck36, ty_inf36, ty_eq36, ty_f36_0, ty_f36_1, ty_sz39, ty_st39, ty_cell39, ty_ck39, ty_inf39, ty_eq39, ty_f39_0, ty_f39_1, ty_f39_2, ty_f39_3, ty_sz40, ty_st40, ty_cell40, ty_ck40, ty_inf40, ty_eq40, ty_f40_0, ty_f40_1, ty_f40_2, ty_f40_3, ty_sz43, ty_st43, ty_cell43, ty_ck43, ty_inf43, ty_sz49, ty_st49, ty_cell49, ty_ck49, ty_inf49, ty_eq49, ty_f49_0, ty_f49_1, ty_f49_2, ty_f49_3, ty_f49_4, ty_f49_5, ty_f49_6, ty_f49_7, ty_f49_8, ty_sz50, ty_st50, ty_cell50, ty_ck50, ty_inf50, ty_eq50, ty_f50_0, ty_f50_1, ty_f50_2, ty_f50_3, ty_f50_4, ty_f50_5, ty_f50_6, ty_f50_7, ty_f50_8, ty_sz60, ty_st60, ty_cell60, ty_ck60, ty_inf60, ty_sz61, ty_st61, ty_cell61, ty_ck61, ty_inf61, ty_sz62, ty_st62, ty_cell62, ty_ck62, ty_inf62, ty_eq62, ty_f62_0, ty_f62_1, ty_sz63, ty_st63, ty_cell63, ty_ck63, ty_inf63, ty_eq63, ty_f63_0, ty_f63_1, ty_sz69, ty_st69, ty_cell69, ty_ck69, ty_inf69, ty_eq69, ty_f69_0, ty_f69_1, ty_f69_2, ty_f69_3, ty_sz73, ty_st73, ty_cell73, ty_ck73, ty_inf73, ty_eq73, ty_f73_0, ty_f73_1, ty_f73_2, ty_f73_3, ty_f73_4, ty_f73_5, ty_f73_6, ty_f73_7, ty_f73_8, ty_sz88, ty_st88, ty_cell88, ty_ck88, ty_inf88, ty_eq88, ty_f88_0, ty_f88_1, ty_f88_2, ty_sz89, ty_st89, ty_cell89, ty_ck89, ty_inf89, ty_eq89, ty_f89_0, ty_f89_1, ty_f89_2, ty_sz112, ty_st112, ty_cell112, ty_ck112, ty_inf112, ty_eq112, ty_f112_0, ty_f112_1, ty_sz113, ty_st113, ty_cell113, ty_ck113, ty_inf113, ty_eq113, ty_f113_0, ty_f113_1, ty_sz119, ty_st119, ty_cell119, ty_ck119, ty_inf119, ty_eq119, ty_f119_0, ty_f119_1, ty_sz121, ty_st121, ty_cell121, ty_ck121, ty_inf121, ty_eq121, ty_f121_0, ty_f121_1, ty_f121_2, ty_sz132, ty_st132, ty_cell132, ty_ck132, ty_inf132, ty_sz141, ty_st141, ty_cell141, ty_ck141, ty_inf141, Try.underlying2, Try.underlying3, Try.underlying4, Try.underlying5, Try.underlying9, Try.underlying12, Try.underlying21, Try.underlying22, Try.underlying23, Try.underlying24, Try.underlying25, Try.underlying26, Try.underlying35, Try.underlying36, Try.underlying39, Try.underlying40, Try.underlying43, Try.underlying49, Try.underlying50, Try.underlying60, Try.underlying61, Try.underlying62, Try.underlying63, Try.underlying69, Try.underlying73, Try.underlying88, Try.underlying89, Try.underlying112, Try.underlying113, Try.underlying119, Try.underlying121, Try.underlying132, Try.underlying141, e_skip, e_label, e_ret, e_exit, e_seq, e_cond, e_block, e_region, seqK_normal, seqK_ret, seqK_exit, blkK_normal, blkK_ret, blkK_exit, condK_some, regK_true, regK_false, e_nil, e_cons, gateK_go, gateK_skip, gateK_ask, pickK_some, exK_some, x_pick, x_move, x_assign, x_alloc, x_box, x_build, x_buildSlice, x_load, x_store, x_binOp, x_unOp, x_convert, x_makeSlice, x_slice, x_fieldAddr, x_field, x_indexAddr, x_extract, x_nilCheck, x_call, x_len, x_append, x_min, oMin, x_copy, oCopy, eqAVs, callK_some, done_ret, done_normal, doneO_ret, doneO_normal, endsO_one, endsO_nil, endsO_more, ownAbs, frzAbs, leafs, leafs.leafsL, uniq, idxOf, bk, zipB, Blk.liveB, gate_none, gate_some, gateS_none, gateS_some, gateV_bool, gateV_undef, boolOf, evA, putT, refn, fpD, oBin, oUn, upsl, upl, up, ups, lk, dstsOf, resL, resA, packA, oLoad, oStore, oAlloc, oBox, oBuild, oBuildSlice, oMake, oAppend, oIndexAddr, oFieldAddr, oField, oExtract, oNil, oSlice, oLen, oConvert, rowLoad, fillA, fillR, dk, dks, dkRows, frz, loOf, hiOf, lenOf, rowsOf, nilV, lenV, putAt, views, viewsOk, CK.av, CK.ok, AV.cells, AV.one, Value.oneCell', Value.cells, pureAbs, nrm, nrm.nrmL, hpAt, sh, AV.ren, AV.ren.renL, Blk.ren, fpOf, footO, foot, blkIds, AV.ids, AV.ids.idsL, Op.operands, Call.operands, List.find?_cons, List.find?_nil, Nat.reduceBEq, beq_self_eq_true, List.map_cons, List.map_nil, List.getD_cons_zero, List.getD_cons_succ, List.getD_nil, List.set_cons_zero, List.set_cons_succ, List.length_cons, List.length_nil, List.replicate, List.cons_append, List.nil_append, List.append_nil, List.getElem?_cons_zero, List.getElem?_cons_succ, List.getElem?_toArray, List.getElem?_nil, List.take_zero, List.take_succ_cons, List.take_nil, List.drop_zero, List.drop_succ_cons, List.drop_nil, List.headD_cons, List.tail_cons, List.flatten_cons, List.flatten_nil, List.flatMap_cons, List.flatMap_nil, List.toList_toArray, Array.toList_append, Option.bind_some, Option.map_some, Option.map_none, Option.isSome_some, List.all_nil, List.all_cons, Bool.and_self, Bool.and_true, Bool.true_and, true_and, and_true, ↓reduceIte, List.size_toArray, Bool.false_eq_true, Bool.true_eq_false, false_implies, true_implies, Bool.not_true, Bool.not_false, and_self, implies_true, decide_true, decide_false, Nat.reduceAdd, Nat.reduceMul, Nat.reduceLT, Nat.reduceSub, Nat.reduceLeDiff, Nat.reduceEqDiff, eq_self, ne_eq, not_false_eq_true, false_and, and_false, reduceCtorEq, List.filter_nil, List.filter_cons, List.isEmpty_nil, List.isEmpty_cons, bne_self_eq_false, Nat.reduceBneDiff, Nat.lt_add_one, Nat.zero_lt_succ, List.append_assoc, Nat.zero_le, and_self_iff, Int.reduceToNat, decide_eq_true_eq, decide_eq_false_iff_not, beq_iff_eq, Int.toNat_natCast]
    refine e_loop _ _ _ _ _ _ _ _ (fun j : Nat => [.own 0, .v (.int .i64 ((m + j : Nat) : Int)), .any, .any, .any, .v (.int .i64 (j : Int))] ++ List.replicate (Try.f48.ntmps - 6) .any) (fun j => [(0, .sl 5 1 (rowsOfBytes (marks m j ++ xs.drop j)))]) (fun j => j ≤ xs.length) (fun j => xs.length - j) 1 (fun j => by simp) ⟨0, ?_⟩ fun j hj => ?_
    · simp only [Try.f48]
      rw [marks, List.nil_append, List.drop_zero, Nat.add_zero]
      exact ⟨[], by omega, by (refine ⟨?_, ?_, ?_⟩ <;> simp [fitT, fit1, fitH, fitB, emptyB, rn, lk, AV.ren, AV.ren.renL, Blk.ren, blkIds, blkPids, AV.ids, AV.ids.idsL, AV.pids, AV.pids.pidsL, Blk.there]), by simp [keepIds, rn, List.range, List.range.loop]⟩
    · have w2 : IntKind.i64.wrap ((j : Int) + 1) = ((j + 1 : Nat) : Int) := by rw [wrap_id] <;> omega
      have w3 : IntKind.i64.wrap (((m + j : Nat) : Int) + 1) = ((m + (j + 1) : Nat) : Int) := by rw [wrap_id] <;> omega
      have hlen : (marks m j ++ xs.drop j).length = xs.length := by rw [List.length_append, marks_len, List.length_drop]; omega
      simp (maxSteps := 3000000) only [Try.f48, rowsOf_len, ty_sz2, ty_st2, ty_cell2, ty_ck2, ty_inf2, ty_sz3, ty_st3, ty_cell3, ty_ck3, ty_inf3, ty_sz4, ty_st4, ty_cell4, ty_ck4, ty_inf4, ty_sz5, ty_st5, ty_cell5, ty_ck5, ty_inf5, ty_sz9, ty_st9, ty_cell9, ty_ck9, ty_inf9, ty_sz12, ty_st12, ty_cell12, ty_ck12, ty_inf12, ty_sz21, ty_st21, ty_cell21, ty_ck21, ty_inf21, ty_sz22, ty_st22, ty_cell22, ty_ck22, ty_inf22, ty_sz23, ty_st23, ty_cell23, ty_ck23, ty_inf23, ty_sz24, ty_st24, ty_cell24, ty_ck24, ty_inf24, ty_sz25, ty_st25, ty_cell25, ty_ck25, ty_inf25, ty_eq25, ty_f25_0, ty_f25_1, ty_sz26, ty_st26, ty_cell26, ty_ck26, ty_inf26, ty_eq26, ty_f26_0, ty_f26_1, ty_sz35, ty_st35, ty_cell35, ty_ck35, ty_inf35, ty_eq35, ty_f35_0, ty_f35_1, ty_sz36, ty_st36, ty_cell36, ty_ck36, ty_inf36, ty_eq36, ty_f36_0, ty_f36_1, ty_sz39, ty_st39, ty_cell39, ty_ck39, ty_inf39, ty_eq39, ty_f39_0, ty_f39_1, ty_f39_2, ty_f39_3, ty_sz40, ty_st40, ty_cell40, ty_ck40, ty_inf40, ty_eq40, ty_f40_0, ty_f40_1, ty_f40_2, ty_f40_3, ty_sz43, ty_st43, ty_cell43, ty_ck43, ty_inf43, ty_sz49, ty_st49, ty_cell49, ty_ck49, ty_inf49, ty_eq49, ty_f49_0, ty_f49_1, ty_f49_2, ty_f49_3, ty_f49_4, ty_f49_5, ty_f49_6, ty_f49_7, ty_f49_8, ty_sz50, ty_st50, ty_cell50, ty_ck50, ty_inf50, ty_eq50, ty_f50_0, ty_f50_1, ty_f50_2, ty_f50_3, ty_f50_4, ty_f50_5, ty_f50_6, ty_f50_7, ty_f50_8, ty_sz60, ty_st60, ty_cell60, ty_ck60, ty_inf60, ty_sz61, ty_st61, ty_cell61, ty_ck61, ty_inf61, ty_sz62, ty_st62, ty_cell62, ty_ck62, ty_inf62, ty_eq62, ty_f62_0, ty_f62_1, ty_sz63, ty_st63, ty_cell63, ty_ck63, ty_inf63, ty_eq63, ty_f63_0, ty_f63_1, ty_sz69, ty_st69, ty_cell69, ty_ck69, ty_inf69, ty_eq69, ty_f69_0, ty_f69_1, ty_f69_2, ty_f69_3, ty_sz73, ty_st73, ty_cell73, ty_ck73, ty_inf73, ty_eq73, ty_f73_0, ty_f73_1, ty_f73_2, ty_f73_3, ty_f73_4, ty_f73_5, ty_f73_6, ty_f73_7, ty_f73_8, ty_sz88, ty_st88, ty_cell88, ty_ck88, ty_inf88, ty_eq88, ty_f88_0, ty_f88_1, ty_f88_2, ty_sz89, ty_st89, ty_cell89, ty_ck89, ty_inf89, ty_eq89, ty_f89_0, ty_f89_1, ty_f89_2, ty_sz112, ty_st112, ty_cell112, ty_ck112, ty_inf112, ty_eq112, ty_f112_0, ty_f112_1, ty_sz113, ty_st113, ty_cell113, ty_ck113, ty_inf113, ty_eq113, ty_f113_0, ty_f113_1, ty_sz119, ty_st119, ty_cell119, ty_ck119, ty_inf119, ty_eq119, ty_f119_0, ty_f119_1, ty_sz121, ty_st121, ty_cell121, ty_ck121, ty_inf121, ty_eq121, ty_f121_0, ty_f121_1, ty_f121_2, ty_sz132, ty_st132, ty_cell132, ty_ck132, ty_inf132, ty_sz141, ty_st141, ty_cell141, ty_ck141, ty_inf141, Try.underlying2, Try.underlying3, Try.underlying4, Try.underlying5, Try.underlying9, Try.underlying12, Try.underlying21, Try.underlying22, Try.underlying23, Try.underlying24, Try.underlying25, Try.underlying26, Try.underlying35, Try.underlying36, Try.underlying39, Try.underlying40, Try.underlying43, Try.underlying49, Try.underlying50, Try.underlying60, Try.underlying61, Try.underlying62, Try.underlying63, Try.underlying69, Try.underlying73, Try.underlying88, Try.underlying89, Try.underlying112, Try.underlying113, Try.underlying119, Try.underlying121, Try.underlying132, Try.underlying141, e_skip, e_label, e_ret, e_exit, e_seq, e_cond, e_block, e_region, seqK_normal, seqK_ret, seqK_exit, blkK_normal, blkK_ret, blkK_exit, condK_some, regK_true, regK_false, e_nil, e_cons, gateK_go, gateK_skip, gateK_ask, pickK_some, exK_some, x_pick, x_move, x_assign, x_alloc, x_box, x_build, x_buildSlice, x_load, x_store, x_binOp, x_unOp, x_convert, x_makeSlice, x_slice, x_fieldAddr, x_field, x_indexAddr, x_extract, x_nilCheck, x_call, x_len, x_append, x_min, oMin, x_copy, oCopy, eqAVs, callK_some, done_ret, done_normal, doneO_ret, doneO_normal, endsO_one, endsO_nil, endsO_more, ownAbs, frzAbs, leafs, leafs.leafsL, uniq, idxOf, bk, zipB, Blk.liveB, gate_none, gate_some, gateS_none, gateS_some, gateV_bool, gateV_undef, boolOf, evA, putT, refn, fpD, oBin, oUn, upsl, upl, up, ups, lk, dstsOf, resL, resA, packA, oLoad, oStore, oAlloc, oBox, oBuild, oBuildSlice, oMake, oAppend, oIndexAddr, oFieldAddr, oField, oExtract, oNil, oSlice, oLen, oConvert, rowLoad, fillA, fillR, dk, dks, dkRows, frz, loOf, hiOf, lenOf, rowsOf, nilV, lenV, putAt, views, viewsOk, CK.av, CK.ok, AV.cells, AV.one, Value.oneCell', Value.cells, pureAbs, nrm, nrm.nrmL, hpAt, sh, AV.ren, AV.ren.renL, Blk.ren, fpOf, footO, foot, blkIds, AV.ids, AV.ids.idsL, Op.operands, Call.operands, List.find?_cons, List.find?_nil, Nat.reduceBEq, beq_self_eq_true, List.map_cons, List.map_nil, List.getD_cons_zero, List.getD_cons_succ, List.getD_nil, List.set_cons_zero, List.set_cons_succ, List.length_cons, List.length_nil, List.replicate, List.cons_append, List.nil_append, List.append_nil, List.getElem?_cons_zero, List.getElem?_cons_succ, List.getElem?_toArray, List.getElem?_nil, List.take_zero, List.take_succ_cons, List.take_nil, List.drop_zero, List.drop_succ_cons, List.drop_nil, List.headD_cons, List.tail_cons, List.flatten_cons, List.flatten_nil, List.flatMap_cons, List.flatMap_nil, List.toList_toArray, Array.toList_append, Option.bind_some, Option.map_some, Option.map_none, Option.isSome_some, List.all_nil, List.all_cons, Bool.and_self, Bool.and_true, Bool.true_and, true_and, and_true, ↓reduceIte, List.size_toArray, Bool.false_eq_true, Bool.true_eq_false, false_implies, true_implies, Bool.not_true, Bool.not_false, and_self, implies_true, decide_true, decide_false, Nat.reduceAdd, Nat.reduceMul, Nat.reduceLT, Nat.reduceSub, Nat.reduceLeDiff, Nat.reduceEqDiff, eq_self, ne_eq, not_false_eq_true, false_and, and_false, reduceCtorEq, List.filter_nil, List.filter_cons, List.isEmpty_nil, List.isEmpty_cons, bne_self_eq_false, Nat.reduceBneDiff, Nat.lt_add_one, Nat.zero_lt_succ, List.append_assoc, Nat.zero_le, and_self_iff, Int.reduceToNat, decide_eq_true_eq, decide_eq_false_iff_not, beq_iff_eq, Int.toNat_natCast, loopK_normal, loopK_exit, loopK_ret, w2, w3, hlen]
      by_cases h : (j : Int) < (xs.length : Int)
      · rw [if_pos h, marks_set xs m j (by omega)]
        exact ⟨by omega, by omega, j + 1, [], by omega, by omega, by (refine ⟨?_, ?_, ?_⟩ <;> simp [fitT, fit1, fitH, fitB, emptyB, rn, lk, AV.ren, AV.ren.renL, Blk.ren, blkIds, blkPids, AV.ids, AV.ids.idsL, AV.pids, AV.pids.pidsL, Blk.there]), by simp [keepIds, rn, List.range, List.range.loop]⟩
      · rw [if_neg h]
        obtain rfl : j = xs.length := by omega
        rw [List.drop_length, List.append_nil, Int.natCast_add]
        exact ⟨[], by (refine ⟨?_, ?_, ?_⟩ <;> simp [fitT, fit1, fitH, fitB, emptyB, rn, lk, AV.ren, AV.ren.renL, Blk.ren, blkIds, blkPids, AV.ids, AV.ids.idsL, AV.pids, AV.pids.pidsL, Blk.there]), by simp [keepIds, rn, List.range, List.range.loop]⟩
  · cases hg

/-! the exact laws of queries -/
def g_q1 : PC := fun args => match args with
  | [.agg [.v (.int .i64 k), .v (.int .i64 l), .v (.int .i64 a), .v (.int .i64 w)]] => some (True, .v (.bool true), [])
  | _ => none
def lawq1 : List (FuncId × Abs) := [(50, pureAbs g_toQuery), (27, pureAbs g_queryOk), (81, pureAbs g_queryOk)]
theorem lawq1_ok : ∀ p ∈ lawq1, CallOk Try.prog p.1 p.2 := by
  intro p hp
  simp only [lawq1, List.mem_cons, List.not_mem_nil, or_false] at hp
  rcases hp with rfl | rfl | rfl
  · exact toQuery_ok.call
  · exact implQueryOk_ok.call
  · exact specQueryOk_ok.call
theorem qbV_len (k l a w : Int) : (qbV k l a w).length ≤ 10 := by
  have h3 := bytesOf_len a 2
  have h4 := bytesOf_len w 2
  unfold qbV
  split
  · simp only [List.length_append, List.length_cons, List.length_nil]; omega
  · simp
def g_q4 : PC := fun args => match args with
  | [.v (.int .i64 link), .v (.int .i64 addr), .agg [.v (.int .i64 k), .v (.int .i64 l), .v (.int .i64 a), .v (.int .i64 w)]] => some (True, .v (.bool true), [])
  | _ => none
/-- a value as itself -/
theorem arel_v {w : World} {Z : Nat → Prop} {L : Nat → Blk} {s : Nat → Value} (x : Value) : AVR w Z L s (.v x) x := .v x
theorem arel_nil {w : World} {Z : Nat → Prop} {L : Nat → Blk} {s : Nat → Value} : ARel w Z L s [] [] := ⟨rfl, fun i x y hx => by simp at hx⟩
theorem arel_cons {w : World} {Z : Nat → Prop} {L : Nat → Blk} {s : Nat → Value} {a : AV} {x : Value} {xa : List AV} {xs : List Value} (h : AVR w Z L s a x) (k : ARel w Z L s xa xs) : ARel w Z L s (a :: xa) (x :: xs) :=
  ⟨by simp [k.1], fun i y z hy hz => by
    cases i with
    | zero => simp at hy hz; subst hy; subst hz; exact h
    | succ i => exact k.2 i y z (by simpa using hy) (by simpa using hz)⟩
theorem avr_agg {w : World} {Z : Nat → Prop} {L : Nat → Blk} {s : Nat → Value} {xa : List AV} {xs : List Value} (k : ARel w Z L s xa xs) : AVR w Z L s (.agg xa) (.agg xs.toArray) := .agg _ _ k.1 k.2
theorem avr_q (w : World) (k l a q : Int) : AVR w (Zold w) (fun _ => .none) (fun _ => nilS) (.agg [.v (.int .i64 k), .v (.int .i64 l), .v (.int .i64 a), .v (.int .i64 q)]) (.agg #[.int .i64 k, .int .i64 l, .int .i64 a, .int .i64 q]) :=
  avr_agg (xs := [_, _, _, _]) (arel_cons (.v _) (arel_cons (.v _) (arel_cons (.v _) (arel_cons (.v _) arel_nil))))
end Go.Proofs.Ytdanjfnobanehaa
