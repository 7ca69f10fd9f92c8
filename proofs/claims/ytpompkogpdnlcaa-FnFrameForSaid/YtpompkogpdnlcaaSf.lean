import Derived.Test.YtpompkogpdnlcaaSe
namespace Go.Proofs.Ytpompkogpdnlcaa
open Go.RowKit
set_option linter.unusedSimpArgs false

def forB (t f k : Int) (n : Nat) (l : Int) : Bool := decide ((((0 ≤ t ∧ t ≤ 255) ∧ (0 ≤ f ∧ f ≤ 254)) ∧ (0 ≤ k ∧ k ≤ 255) ∧ n ≤ 64) ∧ (0 ≤ l ∧ l ≤ 254) ∧ (t = l ∨ (t = 255 ∧ f ≠ l)))
def g_frameFor : PC := fun args => match args with
  | [.agg [.v (.int .i64 t), .v (.int .i64 f), .v (.int .i64 k), .l _ rows], .v (.int .i64 l)] => some (∀ r ∈ rows, r.length = 1, .v (.bool (forB t f k rows.length l)), [])
  | _ => none
def fors : List (FuncId × Abs) := [(37, pureAbs g_isLink), (39, pureAbs g_l1In), (12, pureAbs g_frameOk), (13, pureAbs g_frameOk)]
theorem fors_ok : ∀ p ∈ fors, CallOk Try.prog p.1 p.2 := by
  intro p hp
  simp only [fors, List.mem_cons, List.not_mem_nil, or_false] at hp
  rcases hp with rfl | rfl | rfl | rfl
  · exact isLink_ok.call
  · exact l1In_ok.call
  · exact implFrameOk_ok.call
  · exact specFrameOk_ok.call
set_option maxRecDepth 100000 in
theorem implFrameFor_ok : PureOk Try.prog 24 g_frameFor := by
  refine PureOk.of_vc (G := fors) fors_ok mixed Try.func24 (by kernel_rfl) rfl ?_
  intro args cnd r bs hg hc
  unfold g_frameFor at hg
  split at hg
  · rename_i t f k sz rows l
    cases hg
    refine ⟨⟨rfl, by simp, by simp [AV.ids]⟩, [.agg [.v (.int .i64 t), .v (.int .i64 f), .v (.int .i64 k), .l 1 rows], .v (.int .i64 l)], rfl, fun w vs h => CvL.ok (.cons (.cons (.refl _) (.cons (.refl _) (.cons (.refl _) (.cons (.l _ _ _ hc) .nil)))) (.cons (.refl _) .nil)) h, ?_⟩
    simp (maxSteps := 3000000) only [Try.f24, fors, g_isLink, g_frameOk, ty_sz2, ty_st2, ty_cell2, ty_ck2, ty_inf2, ty_sz3, ty_st3, ty_cell3, ty_ck3, ty_inf3, ty_sz4, ty_st4, ty_cell4, ty_ck4, ty_inf4, ty_sz5, ty_st5, ty_cell5, ty_ck5, ty_inf5, ty_sz9, ty_st9, ty_cell9, ty_ck9, ty_inf9, ty_sz12, ty_st12, ty_cell12, ty_ck12, ty_inf12, ty_sz21, ty_st21, ty_cell21, ty_ck21, ty_inf21, ty_sz22, ty_st22, ty_cell22, ty_ck22, ty_inf22, ty_sz23, ty_st23, ty_cell23, ty_ck23, ty_inf23, ty_f23_0, ty_f23_1, ty_f23_2, ty_f23_3, ty_sz24, ty_st24, ty_cell24, ty_ck24, ty_inf24, ty_f24_0, ty_f24_1, ty_f24_2, ty_f24_3, ty_sz38, ty_st38, ty_cell38, ty_ck38, ty_inf38, ty_f38_0, ty_f38_1, ty_f38_2, ty_f38_3, ty_sz55, ty_st55, ty_cell55, ty_ck55, ty_inf55, ty_f55_0, ty_f55_1, ty_sz56, ty_st56, ty_cell56, ty_ck56, ty_inf56, ty_f56_0, ty_f56_1, ty_sz65, ty_st65, ty_cell65, ty_ck65, ty_inf65, ty_sz74, ty_st74, ty_cell74, ty_ck74, ty_inf74, Try.underlying2, Try.underlying3, Try.underlying4, Try.underlying5, Try.underlying9, Try.underlying12, Try.underlying21, Try.underlying22, Try.underlying23, Try.underlying24, Try.underlying38, Try.underlying55, Try.underlying56, Try.underlying65, Try.underlying74, e_skip, e_label, e_ret, e_exit, e_seq, e_cond, e_block, e_region, seqK_normal, seqK_ret, seqK_exit, blkK_normal, blkK_ret, blkK_exit, condK_some, regK_true, regK_false, e_nil, e_cons, gateK_go, gateK_skip, gateK_ask, pickK_some, exK_some, x_pick, x_move, x_assign, x_alloc, x_box, x_build, x_buildSlice, x_load, x_store, x_binOp, x_unOp, x_convert, x_makeSlice, x_slice, x_fieldAddr, x_field, x_indexAddr, x_extract, x_nilCheck, x_call, x_len, x_append, callK_some, done_ret, done_normal, doneO_ret, doneO_normal, endsO_one, endsO_nil, endsO_more, ownAbs, uniq, idxOf, bk, zipB, Blk.liveB, gate_none, gate_some, gateS_none, gateS_some, gateV_bool, gateV_undef, boolOf, evA, putT, refn, fpD, oBin, oUn, upsl, upl, up, ups, lk, dstsOf, resL, resA, packA, oLoad, oStore, oAlloc, oBox, oBuild, oBuildSlice, oMake, oAppend, oIndexAddr, oFieldAddr, oField, oExtract, oNil, oSlice, oLen, oConvert, rowLoad, fillA, fillR, dk, dks, dkRows, frz, loOf, hiOf, lenOf, rowsOf, nilV, lenV, putAt, views, viewsOk, CK.av, CK.ok, AV.cells, AV.one, Value.oneCell', Value.cells, pureAbs, nrm, nrm.nrmL, hpAt, sh, AV.ren, AV.ren.renL, Blk.ren, fpOf, foot, blkIds, AV.ids, AV.ids.idsL, Op.operands, Call.operands, List.find?_cons, List.find?_nil, Nat.reduceBEq, beq_self_eq_true, List.map_cons, List.map_nil, List.getD_cons_zero, List.getD_cons_succ, List.getD_nil, List.set_cons_zero, List.set_cons_succ, List.length_cons, List.length_nil, List.replicate, List.cons_append, List.nil_append, List.append_nil, List.getElem?_cons_zero, List.getElem?_cons_succ, List.getElem?_toArray, List.getElem?_nil, List.take_zero, List.take_succ_cons, List.take_nil, List.drop_zero, List.drop_succ_cons, List.drop_nil, List.headD_cons, List.tail_cons, List.flatten_cons, List.flatten_nil, List.flatMap_cons, List.flatMap_nil, List.toList_toArray, Array.toList_append, Option.bind_some, Option.map_some, Option.map_none, Option.isSome_some, List.all_nil, List.all_cons, Bool.and_self, Bool.and_true, Bool.true_and, true_and, and_true, ↓reduceIte, List.size_toArray, Bool.false_eq_true, Bool.true_eq_false, false_implies, true_implies, Bool.not_true, Bool.not_false, and_self, implies_true, decide_true, decide_false, Nat.reduceAdd, Nat.reduceMul, Nat.reduceLT, Nat.reduceSub, Nat.reduceLeDiff, Nat.reduceEqDiff, eq_self, ne_eq, not_false_eq_true, false_and, and_false, reduceCtorEq, List.filter_nil, List.filter_cons, List.isEmpty_nil, List.isEmpty_cons, bne_self_eq_false, Nat.reduceBneDiff, Nat.lt_add_one, Nat.zero_lt_succ, List.append_assoc, Nat.zero_le, and_self_iff, Int.reduceToNat, decide_eq_true_eq, decide_eq_false_iff_not, beq_iff_eq]
    refine ⟨hc, ?_⟩
    clear hc
    repeat' split
    all_goals (refine ⟨_, [], rfl, ⟨⟨⟨?_, rfl, rfl⟩, trivial⟩, by simp [hpAt, fitH], by simp [hpAt]⟩⟩; refine congrArg (fun b => AV.v (Value.bool b)) ?_; first | rfl | (rw [Bool.eq_iff_iff]; simp only [decide_eq_true_eq, forB, frB, inZ, bne_iff_ne, Bool.false_eq_true, beq_eq_false_iff_ne, beq_iff_eq, ne_eq, decide_eq_false_iff_not, Bool.not_eq_eq_eq_not, Bool.not_true, Bool.not_false, false_iff, iff_false, true_iff, iff_true] at *; omega))
  · cases hg
set_option maxRecDepth 100000 in
theorem specFrameFor_ok : PureOk Try.prog 25 g_frameFor := by
  refine PureOk.of_vc (G := fors) fors_ok mixed Try.func25 (by kernel_rfl) rfl ?_
  intro args cnd r bs hg hc
  unfold g_frameFor at hg
  split at hg
  · rename_i t f k sz rows l
    cases hg
    refine ⟨⟨rfl, by simp, by simp [AV.ids]⟩, [.agg [.v (.int .i64 t), .v (.int .i64 f), .v (.int .i64 k), .l 1 rows], .v (.int .i64 l)], rfl, fun w vs h => CvL.ok (.cons (.cons (.refl _) (.cons (.refl _) (.cons (.refl _) (.cons (.l _ _ _ hc) .nil)))) (.cons (.refl _) .nil)) h, ?_⟩
    simp (maxSteps := 3000000) only [Try.f25, fors, g_l1In, g_frameOk, ty_sz2, ty_st2, ty_cell2, ty_ck2, ty_inf2, ty_sz3, ty_st3, ty_cell3, ty_ck3, ty_inf3, ty_sz4, ty_st4, ty_cell4, ty_ck4, ty_inf4, ty_sz5, ty_st5, ty_cell5, ty_ck5, ty_inf5, ty_sz9, ty_st9, ty_cell9, ty_ck9, ty_inf9, ty_sz12, ty_st12, ty_cell12, ty_ck12, ty_inf12, ty_sz21, ty_st21, ty_cell21, ty_ck21, ty_inf21, ty_sz22, ty_st22, ty_cell22, ty_ck22, ty_inf22, ty_sz23, ty_st23, ty_cell23, ty_ck23, ty_inf23, ty_f23_0, ty_f23_1, ty_f23_2, ty_f23_3, ty_sz24, ty_st24, ty_cell24, ty_ck24, ty_inf24, ty_f24_0, ty_f24_1, ty_f24_2, ty_f24_3, ty_sz38, ty_st38, ty_cell38, ty_ck38, ty_inf38, ty_f38_0, ty_f38_1, ty_f38_2, ty_f38_3, ty_sz55, ty_st55, ty_cell55, ty_ck55, ty_inf55, ty_f55_0, ty_f55_1, ty_sz56, ty_st56, ty_cell56, ty_ck56, ty_inf56, ty_f56_0, ty_f56_1, ty_sz65, ty_st65, ty_cell65, ty_ck65, ty_inf65, ty_sz74, ty_st74, ty_cell74, ty_ck74, ty_inf74, Try.underlying2, Try.underlying3, Try.underlying4, Try.underlying5, Try.underlying9, Try.underlying12, Try.underlying21, Try.underlying22, Try.underlying23, Try.underlying24, Try.underlying38, Try.underlying55, Try.underlying56, Try.underlying65, Try.underlying74, e_skip, e_label, e_ret, e_exit, e_seq, e_cond, e_block, e_region, seqK_normal, seqK_ret, seqK_exit, blkK_normal, blkK_ret, blkK_exit, condK_some, regK_true, regK_false, e_nil, e_cons, gateK_go, gateK_skip, gateK_ask, pickK_some, exK_some, x_pick, x_move, x_assign, x_alloc, x_box, x_build, x_buildSlice, x_load, x_store, x_binOp, x_unOp, x_convert, x_makeSlice, x_slice, x_fieldAddr, x_field, x_indexAddr, x_extract, x_nilCheck, x_call, x_len, x_append, callK_some, done_ret, done_normal, doneO_ret, doneO_normal, endsO_one, endsO_nil, endsO_more, ownAbs, uniq, idxOf, bk, zipB, Blk.liveB, gate_none, gate_some, gateS_none, gateS_some, gateV_bool, gateV_undef, boolOf, evA, putT, refn, fpD, oBin, oUn, upsl, upl, up, ups, lk, dstsOf, resL, resA, packA, oLoad, oStore, oAlloc, oBox, oBuild, oBuildSlice, oMake, oAppend, oIndexAddr, oFieldAddr, oField, oExtract, oNil, oSlice, oLen, oConvert, rowLoad, fillA, fillR, dk, dks, dkRows, frz, loOf, hiOf, lenOf, rowsOf, nilV, lenV, putAt, views, viewsOk, CK.av, CK.ok, AV.cells, AV.one, Value.oneCell', Value.cells, pureAbs, nrm, nrm.nrmL, hpAt, sh, AV.ren, AV.ren.renL, Blk.ren, fpOf, foot, blkIds, AV.ids, AV.ids.idsL, Op.operands, Call.operands, List.find?_cons, List.find?_nil, Nat.reduceBEq, beq_self_eq_true, List.map_cons, List.map_nil, List.getD_cons_zero, List.getD_cons_succ, List.getD_nil, List.set_cons_zero, List.set_cons_succ, List.length_cons, List.length_nil, List.replicate, List.cons_append, List.nil_append, List.append_nil, List.getElem?_cons_zero, List.getElem?_cons_succ, List.getElem?_toArray, List.getElem?_nil, List.take_zero, List.take_succ_cons, List.take_nil, List.drop_zero, List.drop_succ_cons, List.drop_nil, List.headD_cons, List.tail_cons, List.flatten_cons, List.flatten_nil, List.flatMap_cons, List.flatMap_nil, List.toList_toArray, Array.toList_append, Option.bind_some, Option.map_some, Option.map_none, Option.isSome_some, List.all_nil, List.all_cons, Bool.and_self, Bool.and_true, Bool.true_and, true_and, and_true, ↓reduceIte, List.size_toArray, Bool.false_eq_true, Bool.true_eq_false, false_implies, true_implies, Bool.not_true, Bool.not_false, and_self, implies_true, decide_true, decide_false, Nat.reduceAdd, Nat.reduceMul, Nat.reduceLT, Nat.reduceSub, Nat.reduceLeDiff, Nat.reduceEqDiff, eq_self, ne_eq, not_false_eq_true, false_and, and_false, reduceCtorEq, List.filter_nil, List.filter_cons, List.isEmpty_nil, List.isEmpty_cons, bne_self_eq_false, Nat.reduceBneDiff, Nat.lt_add_one, Nat.zero_lt_succ, List.append_assoc, Nat.zero_le, and_self_iff, Int.reduceToNat, decide_eq_true_eq, decide_eq_false_iff_not, beq_iff_eq]
    refine ⟨hc, ?_⟩
    clear hc
    repeat' split
    all_goals (refine ⟨_, [], rfl, ⟨⟨⟨?_, rfl, rfl⟩, trivial⟩, by simp [hpAt, fitH], by simp [hpAt]⟩⟩; refine congrArg (fun b => AV.v (Value.bool b)) ?_; first | rfl | (rw [Bool.eq_iff_iff]; simp only [decide_eq_true_eq, forB, frB, inZ, bne_iff_ne, Bool.false_eq_true, beq_eq_false_iff_ne, beq_iff_eq, ne_eq, decide_eq_false_iff_not, Bool.not_eq_eq_eq_not, Bool.not_true, Bool.not_false, false_iff, iff_false, true_iff, iff_true] at *; omega))
  · cases hg

/-! the draw -/
def forL (xs : List UInt8) : Int := IntKind.i64.wrap (pickV xs (frameV xs 0 8).p 5 + IntKind.i64.wrap (IntKind.i64.wrap ((pickV xs ((frameV xs 0 8).p + 1) 12).tdiv 11) * 252))
theorem frameV_p (xs : List UInt8) (p n : Int) (h0 : 0 ≤ p) (h : p < 100000000000) : p ≤ (frameV xs p n).p ∧ (frameV xs p n).p < p + 40 := by
  have k9 := pickV_nonneg xs (p + 1 + 1 + 1) 9 (by omega)
  have k9' := pickV_lt xs (p + 1 + 1 + 1) 9 (by omega)
  have be := oneIf_le n
  have hq : frameP xs p = p + 1 + 1 + 1 + 1 + 2 * ((pickV xs (p + 1 + 1 + 1) 9).toNat : Int) := rfl
  unfold frameV
  split
  · split
    · dsimp only; omega
    · split
      · dsimp only; omega
      · split <;> (dsimp only; omega)
  · dsimp only; omega
def g_drawFrameFor : PC := fun args => match args with
  | [.l _ rows] => some (∃ xs, rows = rowsOfBytes xs, .tup [.agg [.v (.int .i64 (frameV ((bytesOfRows rows).take 2000) 0 8).to), .v (.int .i64 (frameV ((bytesOfRows rows).take 2000) 0 8).frm), .v (.int .i64 (frameV ((bytesOfRows rows).take 2000) 0 8).kind), .own 0], .v (.int .i64 (forL ((bytesOfRows rows).take 2000)))], [.sl 5 1 (rowsOfBytes (frameV ((bytesOfRows rows).take 2000) 0 8).data)])
  | _ => none
def draws1 : List (FuncId × Abs) := [(36, ownAbs g_open), (35, ownAbs g_frame), (44, ownAbs g_pick)]
theorem draws1_ok : ∀ p ∈ draws1, CallOk Try.prog p.1 p.2 := by
  intro p hp
  simp only [draws1, List.mem_cons, List.not_mem_nil, or_false] at hp
  rcases hp with rfl | rfl | rfl
  · exact open_ok.call
  · exact frame_ok.call
  · exact pick_ok.call
set_option maxRecDepth 100000 in
theorem drawFrameFor_ok : PureOk Try.prog 23 g_drawFrameFor := by
  refine PureOk.of_vc (G := draws1) draws1_ok mixed Try.func23 (by kernel_rfl) rfl ?_
  intro args cnd r bs hg hc
  unfold g_drawFrameFor at hg
  split at hg
  · rename_i sz rows
    cases hg
    obtain ⟨xs, rfl⟩ := hc
    rw [bytesOf_rows]
    have hf := rowsOf_flat (frameV (xs.take 2000) 0 8).data
    refine ⟨⟨rfl, by simpa [flatB] using hf, by simp [AV.ids, AV.ids.idsL]⟩, [.l 1 (rowsOfBytes xs)], rfl, fun w vs h => CvL.ok (.cons (.l _ _ _ (rowsOf_w xs)) .nil) h, ?_⟩
    have hb := frameV_p (xs.take 2000) 0 8 (by omega) (by omega)
    simp (maxSteps := 3000000) only [Try.f23, draws1, g_open, g_frame, g_pick, bytesOf_rows, ty_sz2, ty_st2, ty_cell2, ty_ck2, ty_inf2, ty_sz3, ty_st3, ty_cell3, ty_ck3, ty_inf3, ty_sz4, ty_st4, ty_cell4, ty_ck4, ty_inf4, ty_sz5, ty_st5, ty_cell5, ty_ck5, ty_inf5, ty_sz9, ty_st9, ty_cell9, ty_ck9, ty_inf9, ty_sz12, ty_st12, ty_cell12, ty_ck12, ty_inf12, ty_sz21, ty_st21, ty_cell21, ty_ck21, ty_inf21, ty_sz22, ty_st22, ty_cell22, ty_ck22, ty_inf22, ty_sz23, ty_st23, ty_cell23, ty_ck23, ty_inf23, ty_f23_0, ty_f23_1, ty_f23_2, ty_f23_3, ty_sz24, ty_st24, ty_cell24, ty_ck24, ty_inf24, ty_f24_0, ty_f24_1, ty_f24_2, ty_f24_3, ty_sz38, ty_st38, ty_cell38, ty_ck38, ty_inf38, ty_f38_0, ty_f38_1, ty_f38_2, ty_f38_3, ty_sz55, ty_st55, ty_cell55, ty_ck55, ty_inf55, ty_f55_0, ty_f55_1, ty_sz56, ty_st56, ty_cell56, ty_ck56, ty_inf56, ty_f56_0, ty_f56_1, ty_sz65, ty_st65, ty_cell65, ty_ck65, ty_inf65, ty_sz74, ty_st74, ty_cell74, ty_ck74, ty_inf74, Try.underlying2, Try.underlying3, Try.underlying4, Try.underlying5, Try.underlying9, Try.underlying12, Try.underlying21, Try.underlying22, Try.underlying23, Try.underlying24, Try.underlying38, Try.underlying55, Try.underlying56, Try.underlying65, Try.underlying74, e_skip, e_label, e_ret, e_exit, e_seq, e_cond, e_block, e_region, seqK_normal, seqK_ret, seqK_exit, blkK_normal, blkK_ret, blkK_exit, condK_some, regK_true, regK_false, e_nil, e_cons, gateK_go, gateK_skip, gateK_ask, pickK_some, exK_some, x_pick, x_move, x_assign, x_alloc, x_box, x_build, x_buildSlice, x_load, x_store, x_binOp, x_unOp, x_convert, x_makeSlice, x_slice, x_fieldAddr, x_field, x_indexAddr, x_extract, x_nilCheck, x_call, x_len, x_append, callK_some, done_ret, done_normal, doneO_ret, doneO_normal, endsO_one, endsO_nil, endsO_more, ownAbs, uniq, idxOf, bk, zipB, Blk.liveB, gate_none, gate_some, gateS_none, gateS_some, gateV_bool, gateV_undef, boolOf, evA, putT, refn, fpD, oBin, oUn, upsl, upl, up, ups, lk, dstsOf, resL, resA, packA, oLoad, oStore, oAlloc, oBox, oBuild, oBuildSlice, oMake, oAppend, oIndexAddr, oFieldAddr, oField, oExtract, oNil, oSlice, oLen, oConvert, rowLoad, fillA, fillR, dk, dks, dkRows, frz, loOf, hiOf, lenOf, rowsOf, nilV, lenV, putAt, views, viewsOk, CK.av, CK.ok, AV.cells, AV.one, Value.oneCell', Value.cells, pureAbs, nrm, nrm.nrmL, hpAt, sh, AV.ren, AV.ren.renL, Blk.ren, fpOf, foot, blkIds, AV.ids, AV.ids.idsL, Op.operands, Call.operands, List.find?_cons, List.find?_nil, Nat.reduceBEq, beq_self_eq_true, List.map_cons, List.map_nil, List.getD_cons_zero, List.getD_cons_succ, List.getD_nil, List.set_cons_zero, List.set_cons_succ, List.length_cons, List.length_nil, List.replicate, List.cons_append, List.nil_append, List.append_nil, List.getElem?_cons_zero, List.getElem?_cons_succ, List.getElem?_toArray, List.getElem?_nil, List.take_zero, List.take_succ_cons, List.take_nil, List.drop_zero, List.drop_succ_cons, List.drop_nil, List.headD_cons, List.tail_cons, List.flatten_cons, List.flatten_nil, List.flatMap_cons, List.flatMap_nil, List.toList_toArray, Array.toList_append, Option.bind_some, Option.map_some, Option.map_none, Option.isSome_some, List.all_nil, List.all_cons, Bool.and_self, Bool.and_true, Bool.true_and, true_and, and_true, ↓reduceIte, List.size_toArray, Bool.false_eq_true, Bool.true_eq_false, false_implies, true_implies, Bool.not_true, Bool.not_false, and_self, implies_true, decide_true, decide_false, Nat.reduceAdd, Nat.reduceMul, Nat.reduceLT, Nat.reduceSub, Nat.reduceLeDiff, Nat.reduceEqDiff, eq_self, ne_eq, not_false_eq_true, false_and, and_false, reduceCtorEq, List.filter_nil, List.filter_cons, List.isEmpty_nil, List.isEmpty_cons, bne_self_eq_false, Nat.reduceBneDiff, Nat.lt_add_one, Nat.zero_lt_succ, List.append_assoc, Nat.zero_le, and_self_iff, Int.reduceToNat, decide_eq_true_eq, decide_eq_false_iff_not, beq_iff_eq]
    clear hf
    refine ⟨⟨xs, rfl⟩, ⟨⟨_, rfl, by rw [List.length_take]; omega⟩, by omega, by omega, by omega, by omega⟩, ⟨⟨_, rfl, by rw [List.length_take]; omega⟩, by omega, by omega⟩, ⟨⟨_, rfl, by rw [List.length_take]; omega⟩, by omega, by omega⟩, by omega, _, [(0, some 96)], rfl, ?_⟩
    clear hb
    refine ⟨?_, ?_, ?_⟩ <;> simp [packA, hpAt, fitT, fit1, fitH, fitB, emptyB, rn, lk, AV.ren, AV.ren.renL, Blk.ren, blkIds, blkPids, AV.ids, AV.ids.idsL, AV.pids, AV.pids.pidsL, Blk.there, forL]
  · cases hg
/-- for how many stations a frame is -/
def cntF (t f k : Int) (n : Nat) : Nat → Int
  | 0 => 0
  | m + 1 => cntF t f k n m + if forB t f k n m = true then 1 else 0
theorem cntF_eq (t f k : Int) (n : Nat) : ∀ m : Nat, m ≤ 255 → cntF t f k n m = if frB t f k n = true then (if t = 255 then (if f < m then (m : Int) - 1 else m) else (if t < m then 1 else 0)) else 0
  | 0, _ => by
    simp only [cntF, frB, decide_eq_true_eq]
    split
    · split <;> split <;> omega
    · rfl
  | m + 1, hm => by
    rw [cntF, cntF_eq t f k n m (by omega)]
    simp only [frB, forB, decide_eq_true_eq]
    split
    · split
      · split <;> split <;> split <;> omega
      · split <;> split <;> split <;> omega
    · rw [if_neg (by omega)]
      omega
theorem cntF_le (t f k : Int) (n : Nat) (m : Nat) : 0 ≤ cntF t f k n m ∧ cntF t f k n m ≤ m := by
  induction m with
  | zero => simp [cntF]
  | succ m ih => rw [cntF]; split <;> omega
def laws1 : List (FuncId × Abs) := [(23, pureAbs g_drawFrameFor), (24, pureAbs g_frameFor), (25, pureAbs g_frameFor), (12, pureAbs g_frameOk), (14, pureAbs g_alive)]
theorem laws1_ok : ∀ p ∈ laws1, CallOk Try.prog p.1 p.2 := by
  intro p hp
  simp only [laws1, List.mem_cons, List.not_mem_nil, or_false] at hp
  rcases hp with rfl | rfl | rfl | rfl | rfl
  · exact drawFrameFor_ok.call
  · exact implFrameFor_ok.call
  · exact specFrameFor_ok.call
  · exact implFrameOk_ok.call
  · exact alive_ok.call
set_option maxRecDepth 100000 in
theorem lawFrameFor_ok : PureOk Try.prog 6 g_true := by
  refine PureOk.of_vc (G := laws1) laws1_ok mixed Try.func6 (by kernel_rfl) rfl ?_
  intro args cnd r bs hg hc
  unfold g_true at hg
  split at hg
  · rename_i sz rows
    cases hg
    obtain ⟨xs, rfl⟩ := hc
    refine ⟨⟨rfl, by simp, by simp [AV.ids]⟩, [.l 1 (rowsOfBytes xs)], rfl, fun w vs h => CvL.ok (.cons (.l _ _ _ (rowsOf_w xs)) .nil) h, ?_⟩
    simp (maxSteps := 3000000) only [Try.f6, laws1, g_drawFrameFor, g_frameFor, g_frameOk, g_alive, bytesOf_rows, rowsOf_len, ty_sz2, ty_st2, ty_cell2, ty_ck2, ty_inf2, ty_sz3, ty_st3, ty_cell3, ty_ck3, ty_inf3, ty_sz4, ty_st4, ty_cell4, ty_ck4, ty_inf4, ty_sz5, ty_st5, ty_cell5, ty_ck5, ty_inf5, ty_sz9, ty_st9, ty_cell9, ty_ck9, ty_inf9, ty_sz12, ty_st12, ty_cell12, ty_ck12, ty_inf12, ty_sz21, ty_st21, ty_cell21, ty_ck21, ty_inf21, ty_sz22, ty_st22, ty_cell22, ty_ck22, ty_inf22, ty_sz23, ty_st23, ty_cell23, ty_ck23, ty_inf23, ty_f23_0, ty_f23_1, ty_f23_2, ty_f23_3, ty_sz24, ty_st24, ty_cell24, ty_ck24, ty_inf24, ty_f24_0, ty_f24_1, ty_f24_2, ty_f24_3, ty_sz38, ty_st38, ty_cell38, ty_ck38, ty_inf38, ty_f38_0, ty_f38_1, ty_f38_2, ty_f38_3, ty_sz55, ty_st55, ty_cell55, ty_ck55, ty_inf55, ty_f55_0, ty_f55_1, ty_sz56, ty_st56, ty_cell56, ty_ck56, ty_inf56, ty_f56_0, ty_f56_1, ty_sz65, ty_st65, ty_cell65, ty_ck65, ty_inf65, ty_sz74, ty_st74, ty_cell74, ty_ck74, ty_inf74, Try.underlying2, Try.underlying3, Try.underlying4, Try.underlying5, Try.underlying9, Try.underlying12, Try.underlying21, Try.underlying22, Try.underlying23, Try.underlying24, Try.underlying38, Try.underlying55, Try.underlying56, Try.underlying65, Try.underlying74, e_skip, e_label, e_ret, e_exit, e_seq, e_cond, e_block, e_region, seqK_normal, seqK_ret, seqK_exit, blkK_normal, blkK_ret, blkK_exit, condK_some, regK_true, regK_false, e_nil, e_cons, gateK_go, gateK_skip, gateK_ask, pickK_some, exK_some, x_pick, x_move, x_assign, x_alloc, x_box, x_build, x_buildSlice, x_load, x_store, x_binOp, x_unOp, x_convert, x_makeSlice, x_slice, x_fieldAddr, x_field, x_indexAddr, x_extract, x_nilCheck, x_call, x_len, x_append, callK_some, done_ret, done_normal, doneO_ret, doneO_normal, endsO_one, endsO_nil, endsO_more, ownAbs, uniq, idxOf, bk, zipB, Blk.liveB, gate_none, gate_some, gateS_none, gateS_some, gateV_bool, gateV_undef, boolOf, evA, putT, refn, fpD, oBin, oUn, upsl, upl, up, ups, lk, dstsOf, resL, resA, packA, oLoad, oStore, oAlloc, oBox, oBuild, oBuildSlice, oMake, oAppend, oIndexAddr, oFieldAddr, oField, oExtract, oNil, oSlice, oLen, oConvert, rowLoad, fillA, fillR, dk, dks, dkRows, frz, loOf, hiOf, lenOf, rowsOf, nilV, lenV, putAt, views, viewsOk, CK.av, CK.ok, AV.cells, AV.one, Value.oneCell', Value.cells, pureAbs, nrm, nrm.nrmL, hpAt, sh, AV.ren, AV.ren.renL, Blk.ren, fpOf, foot, blkIds, AV.ids, AV.ids.idsL, Op.operands, Call.operands, List.find?_cons, List.find?_nil, Nat.reduceBEq, beq_self_eq_true, List.map_cons, List.map_nil, List.getD_cons_zero, List.getD_cons_succ, List.getD_nil, List.set_cons_zero, List.set_cons_succ, List.length_cons, List.length_nil, List.replicate, List.cons_append, List.nil_append, List.append_nil, List.getElem?_cons_zero, List.getElem?_cons_succ, List.getElem?_toArray, List.getElem?_nil, List.take_zero, List.take_succ_cons, List.take_nil, List.drop_zero, List.drop_succ_cons, List.drop_nil, List.headD_cons, List.tail_cons, List.flatten_cons, List.flatten_nil, List.flatMap_cons, List.flatMap_nil, List.toList_toArray, Array.toList_append, Option.bind_some, Option.map_some, Option.map_none, Option.isSome_some, List.all_nil, List.all_cons, Bool.and_self, Bool.and_true, Bool.true_and, true_and, and_true, ↓reduceIte, List.size_toArray, Bool.false_eq_true, Bool.true_eq_false, false_implies, true_implies, Bool.not_true, Bool.not_false, and_self, implies_true, decide_true, decide_false, Nat.reduceAdd, Nat.reduceMul, Nat.reduceLT, Nat.reduceSub, Nat.reduceLeDiff, Nat.reduceEqDiff, eq_self, ne_eq, not_false_eq_true, false_and, and_false, reduceCtorEq, List.filter_nil, List.filter_cons, List.isEmpty_nil, List.isEmpty_cons, bne_self_eq_false, Nat.reduceBneDiff, Nat.lt_add_one, Nat.zero_lt_succ, List.append_assoc, Nat.zero_le, and_self_iff, Int.reduceToNat, decide_eq_true_eq, decide_eq_false_iff_not, beq_iff_eq]
    generalize frameV (List.take 2000 xs) 0 8 = V
    split
    · (refine ⟨_, [], rfl, ⟨⟨⟨?_, rfl, rfl⟩, trivial⟩, by simp [hpAt, fitH], by simp [hpAt]⟩⟩; refine congrArg (fun b => AV.v (Value.bool b)) ?_; first | rfl | (rw [Bool.eq_iff_iff]; simp only [decide_eq_true_eq, frB, inZ, Bool.false_eq_true, beq_eq_false_iff_ne, beq_iff_eq, ne_eq, decide_eq_false_iff_not, Bool.not_eq_eq_eq_not, Bool.not_true, Bool.not_false, false_iff, iff_false, true_iff, iff_true] at *; omega))
    · refine ⟨⟨xs, rfl⟩, rowsOf_w _, rowsOf_w _, ?_⟩
      refine e_loop _ _ _ _ _ _ _ _ (fun k : Nat => [.any, .any, .any, .ptr 1 0, .any, .any, .v (.int .i64 (cntF V.to V.frm V.kind V.data.length k)), .v (.int .i64 k)] ++ List.replicate (Try.f6.ntmps - 8) .any) (fun _ => [(0, .sl 5 1 (rowsOfBytes V.data)), (1, .var 24 [.v (.int .i64 V.to), .v (.int .i64 V.frm), .v (.int .i64 V.kind), .own 0])]) (fun k => k ≤ 255) (fun k => 255 - k) 2 (fun k => by simp) ⟨0, [(0, some 80), (1, some 144)], by omega, ?_, by simp [keepIds]⟩ fun k hk => ?_
      · simp only [cntF, Try.f6]
        (refine ⟨?_, ?_, ?_⟩ <;> simp [fitT, fit1, fitH, fitB, emptyB, rn, lk, AV.ren, AV.ren.renL, Blk.ren, blkIds, blkPids, AV.ids, AV.ids.idsL, AV.pids, AV.pids.pidsL, Blk.there])
      · have hcnt := cntF_le V.to V.frm V.kind V.data.length k
        have w1 : IntKind.i64.wrap (cntF V.to V.frm V.kind V.data.length k + 1) = cntF V.to V.frm V.kind V.data.length k + 1 := wrap_id (by omega) (by omega)
        have w2 : IntKind.i64.wrap ((k : Int) + 1) = ((k + 1 : Nat) : Int) := by rw [wrap_id] <;> omega
        simp (maxSteps := 3000000) only [Try.f6, laws1, g_drawFrameFor, g_frameFor, g_frameOk, g_alive, bytesOf_rows, rowsOf_len, ty_sz2, ty_st2, ty_cell2, ty_ck2, ty_inf2, ty_sz3, ty_st3, ty_cell3, ty_ck3, ty_inf3, ty_sz4, ty_st4, ty_cell4, ty_ck4, ty_inf4, ty_sz5, ty_st5, ty_cell5, ty_ck5, ty_inf5, ty_sz9, ty_st9, ty_cell9, ty_ck9, ty_inf9, ty_sz12, ty_st12, ty_cell12, ty_ck12, ty_inf12, ty_sz21, ty_st21, ty_cell21, ty_ck21, ty_inf21, ty_sz22, ty_st22, ty_cell22, ty_ck22, ty_inf22, ty_sz23, ty_st23, ty_cell23, ty_ck23, ty_inf23, ty_f23_0, ty_f23_1, ty_f23_2, ty_f23_3, ty_sz24, ty_st24, ty_cell24, ty_ck24, ty_inf24, ty_f24_0, ty_f24_1, ty_f24_2, ty_f24_3, ty_sz38, ty_st38, ty_cell38, ty_ck38, ty_inf38, ty_f38_0, ty_f38_1, ty_f38_2, ty_f38_3, ty_sz55, ty_st55, ty_cell55, ty_ck55, ty_inf55, ty_f55_0, ty_f55_1, ty_sz56, ty_st56, ty_cell56, ty_ck56, ty_inf56, ty_f56_0, ty_f56_1, ty_sz65, ty_st65, ty_cell65, ty_ck65, ty_inf65, ty_sz74, ty_st74, ty_cell74, ty_ck74, ty_inf74, Try.underlying2, Try.underlying3, Try.underlying4, Try.underlying5, Try.underlying9, Try.underlying12, Try.underlying21, Try.underlying22, Try.underlying23, Try.underlying24, Try.underlying38, Try.underlying55, Try.underlying56, Try.underlying65, Try.underlying74, e_skip, e_label, e_ret, e_exit, e_seq, e_cond, e_block, e_region, seqK_normal, seqK_ret, seqK_exit, blkK_normal, blkK_ret, blkK_exit, condK_some, regK_true, regK_false, e_nil, e_cons, gateK_go, gateK_skip, gateK_ask, pickK_some, exK_some, x_pick, x_move, x_assign, x_alloc, x_box, x_build, x_buildSlice, x_load, x_store, x_binOp, x_unOp, x_convert, x_makeSlice, x_slice, x_fieldAddr, x_field, x_indexAddr, x_extract, x_nilCheck, x_call, x_len, x_append, callK_some, done_ret, done_normal, doneO_ret, doneO_normal, endsO_one, endsO_nil, endsO_more, ownAbs, uniq, idxOf, bk, zipB, Blk.liveB, gate_none, gate_some, gateS_none, gateS_some, gateV_bool, gateV_undef, boolOf, evA, putT, refn, fpD, oBin, oUn, upsl, upl, up, ups, lk, dstsOf, resL, resA, packA, oLoad, oStore, oAlloc, oBox, oBuild, oBuildSlice, oMake, oAppend, oIndexAddr, oFieldAddr, oField, oExtract, oNil, oSlice, oLen, oConvert, rowLoad, fillA, fillR, dk, dks, dkRows, frz, loOf, hiOf, lenOf, rowsOf, nilV, lenV, putAt, views, viewsOk, CK.av, CK.ok, AV.cells, AV.one, Value.oneCell', Value.cells, pureAbs, nrm, nrm.nrmL, hpAt, sh, AV.ren, AV.ren.renL, Blk.ren, fpOf, foot, blkIds, AV.ids, AV.ids.idsL, Op.operands, Call.operands, List.find?_cons, List.find?_nil, Nat.reduceBEq, beq_self_eq_true, List.map_cons, List.map_nil, List.getD_cons_zero, List.getD_cons_succ, List.getD_nil, List.set_cons_zero, List.set_cons_succ, List.length_cons, List.length_nil, List.replicate, List.cons_append, List.nil_append, List.append_nil, List.getElem?_cons_zero, List.getElem?_cons_succ, List.getElem?_toArray, List.getElem?_nil, List.take_zero, List.take_succ_cons, List.take_nil, List.drop_zero, List.drop_succ_cons, List.drop_nil, List.headD_cons, List.tail_cons, List.flatten_cons, List.flatten_nil, List.flatMap_cons, List.flatMap_nil, List.toList_toArray, Array.toList_append, Option.bind_some, Option.map_some, Option.map_none, Option.isSome_some, List.all_nil, List.all_cons, Bool.and_self, Bool.and_true, Bool.true_and, true_and, and_true, ↓reduceIte, List.size_toArray, Bool.false_eq_true, Bool.true_eq_false, false_implies, true_implies, Bool.not_true, Bool.not_false, and_self, implies_true, decide_true, decide_false, Nat.reduceAdd, Nat.reduceMul, Nat.reduceLT, Nat.reduceSub, Nat.reduceLeDiff, Nat.reduceEqDiff, eq_self, ne_eq, not_false_eq_true, false_and, and_false, reduceCtorEq, List.filter_nil, List.filter_cons, List.isEmpty_nil, List.isEmpty_cons, bne_self_eq_false, Nat.reduceBneDiff, Nat.lt_add_one, Nat.zero_lt_succ, List.append_assoc, Nat.zero_le, and_self_iff, Int.reduceToNat, decide_eq_true_eq, decide_eq_false_iff_not, beq_iff_eq, loopK_normal, loopK_exit, loopK_ret, w1, w2]
        by_cases h : (k : Int) < 255
        · rw [if_pos h]
          refine ⟨rowsOf_w _, ?_⟩
          split
          · rename_i hf
            refine ⟨k + 1, [], by omega, by omega, ?_, by simp [keepIds]⟩
            have e : cntF V.to V.frm V.kind V.data.length (k + 1) = cntF V.to V.frm V.kind V.data.length k + 1 := by rw [cntF, if_pos hf]
            rw [e]
            (refine ⟨?_, ?_, ?_⟩ <;> simp [fitT, fit1, fitH, fitB, emptyB, rn, lk, AV.ren, AV.ren.renL, Blk.ren, blkIds, blkPids, AV.ids, AV.ids.idsL, AV.pids, AV.pids.pidsL, Blk.there])
          · rename_i hf
            refine ⟨k + 1, [], by omega, by omega, ?_, by simp [keepIds]⟩
            have e : cntF V.to V.frm V.kind V.data.length (k + 1) = cntF V.to V.frm V.kind V.data.length k := by rw [cntF, if_neg hf, Int.add_zero]
            rw [e]
            (refine ⟨?_, ?_, ?_⟩ <;> simp [fitT, fit1, fitH, fitB, emptyB, rn, lk, AV.ren, AV.ren.renL, Blk.ren, blkIds, blkPids, AV.ids, AV.ids.idsL, AV.pids, AV.pids.pidsL, Blk.there])
        · rw [if_neg h]
          obtain rfl : k = 255 := by omega
          have e := cntF_eq V.to V.frm V.kind V.data.length 255 (by omega)
          refine ⟨rowsOf_w _, ?_⟩
          by_cases hok : frB V.to V.frm V.kind V.data.length = true
          · have hfr : V.frm ≤ 254 ∧ 0 ≤ V.to ∧ V.to ≤ 255 := by simp only [frB, decide_eq_true_eq] at hok; omega
            rw [if_neg (by simp [hok])]
            by_cases ht : V.to = 255
            · have e' : cntF V.to V.frm V.kind V.data.length 255 = 254 := by rw [e, if_pos hok, if_pos ht, if_pos (by omega)]; rfl
              rw [if_pos ht, if_pos e']
              have e3 : forB V.to V.frm V.kind V.data.length V.frm = false := by unfold forB; exact decide_eq_false (by omega)
              rw [e3]
              refine ⟨rowsOf_w _, ?_⟩
              (refine ⟨_, [], rfl, ⟨⟨⟨?_, rfl, rfl⟩, trivial⟩, by simp [hpAt, fitH], by simp [hpAt]⟩⟩; refine congrArg (fun b => AV.v (Value.bool b)) ?_; first | rfl | (rw [Bool.eq_iff_iff]; simp only [decide_eq_true_eq, frB, inZ, Bool.false_eq_true, beq_eq_false_iff_ne, beq_iff_eq, ne_eq, decide_eq_false_iff_not, Bool.not_eq_eq_eq_not, Bool.not_true, Bool.not_false, false_iff, iff_false, true_iff, iff_true] at *; omega))
            · have e' : cntF V.to V.frm V.kind V.data.length 255 = 1 := by rw [e, if_pos hok, if_neg ht, if_pos (by omega)]
              rw [if_neg ht, if_pos e']
              have e3 : forB V.to V.frm V.kind V.data.length V.to = true := by simp only [frB, decide_eq_true_eq] at hok; unfold forB; exact decide_eq_true (by omega)
              rw [e3]
              refine ⟨rowsOf_w _, ?_⟩
              (refine ⟨_, [], rfl, ⟨⟨⟨?_, rfl, rfl⟩, trivial⟩, by simp [hpAt, fitH], by simp [hpAt]⟩⟩; refine congrArg (fun b => AV.v (Value.bool b)) ?_; first | rfl | (rw [Bool.eq_iff_iff]; simp only [decide_eq_true_eq, frB, inZ, Bool.false_eq_true, beq_eq_false_iff_ne, beq_iff_eq, ne_eq, decide_eq_false_iff_not, Bool.not_eq_eq_eq_not, Bool.not_true, Bool.not_false, false_iff, iff_false, true_iff, iff_true] at *; omega))
          · have e' : cntF V.to V.frm V.kind V.data.length 255 = 0 := by rw [e, if_neg hok]
            rw [if_pos (by simp [hok]), if_pos e']
            (refine ⟨_, [], rfl, ⟨⟨⟨?_, rfl, rfl⟩, trivial⟩, by simp [hpAt, fitH], by simp [hpAt]⟩⟩; refine congrArg (fun b => AV.v (Value.bool b)) ?_; first | rfl | (rw [Bool.eq_iff_iff]; simp only [decide_eq_true_eq, frB, inZ, Bool.false_eq_true, beq_eq_false_iff_ne, beq_iff_eq, ne_eq, decide_eq_false_iff_not, Bool.not_eq_eq_eq_not, Bool.not_true, Bool.not_false, false_iff, iff_false, true_iff, iff_true] at *; omega))
  · cases hg
theorem walk_FrameFor (A : Option Addr) (n c : Nat) (xs : List UInt8) (w : World) (h : Rd w w.heap.size A n (bv xs)) (hc : n ≤ c) :
    Calls Try.prog 6 #[.slice A n c] w fun e w' => e = .returned (.bool true) ∧ Below w.heap.size w w' :=
  lawFrameFor_ok.walk (args := [.l 1 (rowsOfBytes xs)]) (vs := [.slice A n c]) ⟨rfl, fun i x y hx hy => by
    cases i with
    | zero => simp at hx hy; subst hx; subst hy; exact .l _ _ _ (rep_of_rd h hc)
    | succ i => simp at hx⟩ rfl ⟨xs, rfl⟩
end Go.Proofs.Ytpompkogpdnlcaa
