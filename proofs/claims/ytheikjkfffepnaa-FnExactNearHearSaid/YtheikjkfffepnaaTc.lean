import Derived.Test.YtheikjkfffepnaaTb
import Derived.Test.YtheikjkfffepnaaSm
import Derived.Test.YtheikjkfffepnaaLw
set_option linter.unusedVariables false
set_option linter.unusedSimpArgs false
namespace Go.Proofs.Ytheikjkfffepnaa
open Go.RowKit
set_option linter.unusedSimpArgs false

/-! the helpers of the exact laws, over bytes -/
def g_toByteS : PC := fun args => match args with
  | [.l _ rows] => some (∃ xs, rows = rowsOfBytes xs ∧ xs.length ≤ 140737488355328, .own 0, [.sl 5 1 (rowsOfBytes (bytesOfRows rows))])
  | _ => none
theorem toByteS_ok : PureOk Try.prog 53 g_toByteS := by
  refine PureOk.of_retB ⟨_, _, Try.func53, by kernel_rfl, rfl⟩ fun w args vs c r bs hargs hg hc => ?_
  unfold g_toByteS at hg
  split at hg
  · cases hg
    obtain ⟨xs, rfl, hl⟩ := hc
    obtain ⟨u, rfl, h1⟩ := arg_l hargs
    obtain ⟨A, n, c, rfl, hx, _⟩ := rd_of_rep h1
    rw [bytesOf_rows]
    exact ⟨xs, rfl, rfl, toByteS_any A n c xs w hx (by have := rd_len hx; omega)⟩
  · cases hg
def g_eqByteS : PC := fun args => match args with
  | [.l _ rows, .l _ rows'] => some ((∃ xs, rows = rowsOfBytes xs ∧ xs.length ≤ 140737488355328) ∧ (∃ ys, rows' = rowsOfBytes ys ∧ ys.length ≤ 140737488355328), .v (.bool (bytesOfRows rows == bytesOfRows rows')), [])
  | _ => none
theorem eqByteS_ok : PureOk Try.prog 33 g_eqByteS := by
  refine PureOk.of_calls ⟨_, _, Try.func33, by kernel_rfl, rfl⟩ fun w args vs c r bs hargs hg hc => ?_
  unfold g_eqByteS at hg
  split at hg
  · cases hg
    obtain ⟨⟨xs, rfl, hlx⟩, ys, rfl, hly⟩ := hc
    obtain ⟨u, v, rfl, h1, h2⟩ := arg_ll hargs
    obtain ⟨A, n, c, rfl, hx, _⟩ := rd_of_rep h1
    obtain ⟨A', n', c', rfl, hy, _⟩ := rd_of_rep h2
    rw [bytesOf_rows, bytesOf_rows]
    refine ⟨_, rfl, rfl, (eqByteS_any A A' n n' c c' _ xs ys w hx hy (by have := rd_len hx; omega) (by have := rd_len hy; omega)).mono ?_⟩
    rintro e w' ⟨rfl, hb⟩
    exact ⟨rfl, hb⟩
  · cases hg
theorem arg_li {w : World} {sz : Nat} {rows : List (List D)} {a : Value} {vs : List Value} (h : ARel w (Zold w) (fun _ => .none) (fun _ => nilS) [.l sz rows, .v a] vs) : ∃ u, vs = [u, a] ∧ Rep w (Zold w) (.l sz rows) u := by
  obtain ⟨hl, hr⟩ := h
  match vs, hl, hr with
  | [u, x], _, hr =>
    have h1 := hr 0 _ u rfl rfl
    have h2 := hr 1 _ x rfl rfl
    cases h1 with
    | l _ _ _ h1 =>
      cases h2
      exact ⟨u, rfl, h1⟩
/-- who looks for the marks that are there finds them -/
def g_heldByteS : PC := fun args => match args with
  | [.l _ rows, .v (.int .i64 k)] => some (0 ≤ k ∧ k ≤ 1099511627776 ∧ rows.length ≤ 1099511627776 ∧ rows = rowsOfBytes (marks k.toNat rows.length), .v (.int .i64 (k + (rows.length : Int))), [])
  | _ => none
theorem heldByteS_ok : PureOk Try.prog 39 g_heldByteS := by
  refine PureOk.of_calls ⟨_, _, Try.func39, by kernel_rfl, rfl⟩ fun w args vs c r bs hargs hg hc => ?_
  unfold g_heldByteS at hg
  split at hg
  · rename_i sz rows k
    cases hg
    obtain ⟨hk0, hk, hl, he⟩ := hc
    obtain ⟨m, rfl⟩ := Int.eq_ofNat_of_zero_le hk0
    rw [Int.toNat_natCast] at he
    obtain ⟨u, rfl, h1⟩ := arg_li hargs
    generalize hn : rows.length = n at *
    subst he
    obtain ⟨A, n', c, rfl, hx, _⟩ := rd_of_rep h1
    have := rd_len hx
    rw [marks_len] at this
    subst this
    refine ⟨_, rfl, rfl, (heldByteS_any A n' c _ m w hx hl (by omega)).mono ?_⟩
    rintro e w' ⟨rfl, rfl⟩
    exact ⟨by rw [Int.natCast_add], Below.refl _ _⟩
  · cases hg
/-- who marks bytes of his own -/
def g_markByteS : OC := fun args B0 => match args, B0 with
  | [.own r, .v (.int .i64 k)], [.sl T sz rows] => some (r = 0 ∧ T = 5 ∧ sz = 1 ∧ (∃ xs, rows = rowsOfBytes xs) ∧ rows.length ≤ 1099511627776 ∧ 0 ≤ k ∧ k ≤ 1099511627776,
      .v (.int .i64 (k + (rows.length : Int))), [.sl T sz (rowsOfBytes (marks k.toNat rows.length))], [])
  | _, _ => none
theorem marks_set (xs : List UInt8) (m j : Nat) (hj : j < xs.length) : (rowsOfBytes (marks m j ++ xs.drop j)).set j (D.v (Value.int IntKind.u8 (IntKind.u8.wrap (((m + j : Nat)) : Int))) :: List.drop 1 ((rowsOfBytes (marks m j ++ xs.drop j)).getD j [])) = rowsOfBytes (marks m (j + 1) ++ xs.drop (j + 1)) := by
  rw [rows_set]
  congr 1
  rw [List.set_append_right _ _ (by rw [marks_len]; omega), marks_len, Nat.sub_self, List.drop_eq_getElem_cons hj, List.set_cons_zero, marks, List.append_assoc]
  have e : toU8 ((m + j : Nat) : Int) = UInt8.ofNat ((m + j) % 256) := by
    unfold toU8
    rw [IntKind.wrap_u8]
    congr 1
  rw [e]; rfl
set_option maxRecDepth 100000 in
theorem markByteS_ok : OwnOk Try.prog 36 g_markByteS := by
  refine OwnOk.of_vc (G := []) (by simp) mixed Try.func36 (by kernel_rfl) rfl ?_
  intro args B0 cnd r B1 bs hg hc hlive
  unfold g_markByteS at hg
  split at hg
  · rename_i r k T sz rows
    cases hg
    obtain ⟨rfl, rfl, rfl, ⟨xs, rfl⟩, hl, hk0, hk⟩ := hc
    obtain ⟨m, rfl⟩ := Int.eq_ofNat_of_zero_le hk0
    rw [rowsOf_len] at hl ⊢
    rw [Int.toNat_natCast]
    refine ⟨⟨by simp [likeBs, likeB, rowsOf_len, marks_len], by simp [Blk.liveB, blkIds, AV.ids.idsL, AV.ids], by simp [AV.ids]⟩, _, rfl, fun w Z s vs h => h, ?_⟩
    clear hlive
    simp (maxSteps := 3000000) only [Try.f36, tY2, tY3, tY4, tY5, tY9, tY12, tY21, tY22, tY23, tY24, tY25, tY26, tY27, tY29, tY30, tY31, tY32, tY33, tY37, tY49, tY50, tY51, tY52, tY53, tY68, tY70, tY87, tY96, Try.underlying2, Try.underlying3, Try.underlying4, Try.underlying5, Try.underlying9, Try.underlying12, Try.underlying21, Try.underlying22, Try.underlying23, Try.underlying24, Try.underlying25, Try.underlying26, Try.underlying27, Try.underlying29, Try.underlying30, Try.underlying31, Try.underlying32, Try.underlying33, Try.underlying37, Try.underlying49, Try.underlying50, Try.underlying51, Try.underlying52, Try.underlying53, Try.underlying68, Try.underlying70, Try.underlying87, Try.underlying96, e_skip, e_label, e_ret, e_exit, e_seq, e_cond, e_block, e_region, seqK_normal, seqK_ret, seqK_exit, blkK_normal, blkK_ret, blkK_exit, condK_some, regK_true, regK_false, e_nil, e_cons, gateK_go, gateK_skip, gateK_ask, pickK_some, exK_some, x_pick, x_move, x_assign, x_alloc, x_box, x_build, x_buildSlice, x_load, x_store, x_binOp, x_unOp, x_convert, x_makeSlice, x_slice, x_fieldAddr, x_field, x_indexAddr, x_extract, x_nilCheck, x_call, x_len, x_append, x_min, oMin, x_copy, oCopy, eqAVs, callK_some, done_ret, done_normal, doneO_ret, doneO_normal, endsO_one, endsO_nil, endsO_more, ownAbs, frzAbs, leafs, leafs.leafsL, uniq, idxOf, bk, zipB, Blk.liveB, gate_none, gate_some, gateS_none, gateS_some, gateV_bool, gateV_undef, boolOf, evA, putT, refn, fpD, oBin, oUn, upsl, upl, up, ups, lk, dstsOf, resL, resA, packA, oLoadQ, oLoadKid, oStoreQ, oStoreTree, oBuildSliceQ, oBuildTree, oAppendQ, oAppendTree, isTr, isTrP, tkd, tkds, tkRows, ownOf, nodupB, deadL, treeOf, kidAbs, kidBlk, kidRows, TK.isCell, D.toL, oLoad, oStore, oAlloc, oBox, oBuild, oBuildSlice, oMake, oAppend, oIndexAddr, oFieldAddr, oField, oExtract, oNil, oSlice, oLen, oConvert, rowLoad, fillA, fillR, slB, dk, dks, dkRows, frz, loOf, hiOf, lenOf, rowsOf, nilV, lenV, putAt, views, viewsOk, CK.av, CK.ok, AV.cells, AV.one, Value.oneCell', Value.cells, pureAbs, nrm, nrm.nrmL, hpAt, sh, AV.ren, AV.ren.renL, Blk.ren, fpOf, footO, foot, blkIds, AV.ids, AV.ids.idsL, Op.operands, Call.operands, List.find?_cons, List.find?_nil, Nat.reduceBEq, beq_self_eq_true, List.map_cons, List.map_nil, List.getD_cons_zero, List.getD_cons_succ, List.getD_nil, List.set_cons_zero, List.set_cons_succ, List.length_cons, List.length_nil, List.replicate, List.cons_append, List.nil_append, List.append_nil, List.getElem?_cons_zero, List.getElem?_cons_succ, List.getElem?_toArray, List.getElem?_nil, List.take_zero, List.take_succ_cons, List.take_nil, List.drop_zero, List.drop_succ_cons, List.drop_nil, List.headD_cons, List.tail_cons, List.flatten_cons, List.flatten_nil, List.flatMap_cons, List.flatMap_nil, List.toList_toArray, Array.toList_append, Option.bind_some, Option.map_some, Option.map_none, Option.isSome_some, List.all_nil, List.all_cons, Bool.and_self, Bool.and_true, Bool.true_and, true_and, and_true, ↓reduceIte, List.size_toArray, Bool.false_eq_true, Bool.true_eq_false, false_implies, true_implies, Bool.not_true, Bool.not_false, and_self, implies_true, decide_true, decide_false, Nat.reduceAdd, Nat.reduceMul, Nat.reduceLT, Nat.reduceSub, Nat.reduceLeDiff, Nat.reduceEqDiff, eq_self, ne_eq, not_false_eq_true, false_and, and_false, reduceCtorEq, List.filter_nil, List.filter_cons, List.isEmpty_nil, List.isEmpty_cons, bne_self_eq_false, Nat.reduceBneDiff, Nat.lt_add_one, Nat.zero_lt_succ, List.append_assoc, Nat.zero_le, and_self_iff, Int.reduceToNat, List.any_nil, List.any_cons, List.filterMap_nil, List.filterMap_cons, List.contains_nil, List.contains_cons, Bool.or_false, Bool.false_or, Bool.or_true, Bool.true_or, Bool.false_and, Bool.and_false, decide_eq_true_eq, decide_eq_false_iff_not, beq_iff_eq, Int.toNat_natCast]
    refine e_loop _ _ _ _ _ _ _ _ (fun j : Nat => [.own 0, .v (.int .i64 ((m + j : Nat) : Int)), .any, .any, .any, .v (.int .i64 (j : Int))] ++ List.replicate (Try.f36.ntmps - 6) .any) (fun j => [(0, .sl 5 1 (rowsOfBytes (marks m j ++ xs.drop j)))]) (fun j => j ≤ xs.length) (fun j => xs.length - j) 1 (fun j => by simp) ⟨0, ?_⟩ fun j hj => ?_
    · simp only [Try.f36]
      rw [marks, List.nil_append, List.drop_zero, Nat.add_zero]
      exact ⟨[], by omega, by (refine ⟨?_, ?_, ?_⟩ <;> simp [fitT, fit1, fitH, fitB, trE, emptyB, rn, lk, AV.ren, AV.ren.renL, Blk.ren, blkIds, blkPids, AV.ids, AV.ids.idsL, AV.pids, AV.pids.pidsL, Blk.there]), by simp [keepIds, rn, List.range, List.range.loop]⟩
    · have w2 : IntKind.i64.wrap ((j : Int) + 1) = ((j + 1 : Nat) : Int) := by rw [wrap_id] <;> omega
      have w3 : IntKind.i64.wrap (((m + j : Nat) : Int) + 1) = ((m + (j + 1) : Nat) : Int) := by rw [wrap_id] <;> omega
      have hlen : (marks m j ++ xs.drop j).length = xs.length := by rw [List.length_append, marks_len, List.length_drop]; omega
      simp (maxSteps := 3000000) only [Try.f36, rowsOf_len, tY2, tY3, tY4, tY5, tY9, tY12, tY21, tY22, tY23, tY24, tY25, tY26, tY27, tY29, tY30, tY31, tY32, tY33, tY37, tY49, tY50, tY51, tY52, tY53, tY68, tY70, tY87, tY96, Try.underlying2, Try.underlying3, Try.underlying4, Try.underlying5, Try.underlying9, Try.underlying12, Try.underlying21, Try.underlying22, Try.underlying23, Try.underlying24, Try.underlying25, Try.underlying26, Try.underlying27, Try.underlying29, Try.underlying30, Try.underlying31, Try.underlying32, Try.underlying33, Try.underlying37, Try.underlying49, Try.underlying50, Try.underlying51, Try.underlying52, Try.underlying53, Try.underlying68, Try.underlying70, Try.underlying87, Try.underlying96, e_skip, e_label, e_ret, e_exit, e_seq, e_cond, e_block, e_region, seqK_normal, seqK_ret, seqK_exit, blkK_normal, blkK_ret, blkK_exit, condK_some, regK_true, regK_false, e_nil, e_cons, gateK_go, gateK_skip, gateK_ask, pickK_some, exK_some, x_pick, x_move, x_assign, x_alloc, x_box, x_build, x_buildSlice, x_load, x_store, x_binOp, x_unOp, x_convert, x_makeSlice, x_slice, x_fieldAddr, x_field, x_indexAddr, x_extract, x_nilCheck, x_call, x_len, x_append, x_min, oMin, x_copy, oCopy, eqAVs, callK_some, done_ret, done_normal, doneO_ret, doneO_normal, endsO_one, endsO_nil, endsO_more, ownAbs, frzAbs, leafs, leafs.leafsL, uniq, idxOf, bk, zipB, Blk.liveB, gate_none, gate_some, gateS_none, gateS_some, gateV_bool, gateV_undef, boolOf, evA, putT, refn, fpD, oBin, oUn, upsl, upl, up, ups, lk, dstsOf, resL, resA, packA, oLoadQ, oLoadKid, oStoreQ, oStoreTree, oBuildSliceQ, oBuildTree, oAppendQ, oAppendTree, isTr, isTrP, tkd, tkds, tkRows, ownOf, nodupB, deadL, treeOf, kidAbs, kidBlk, kidRows, TK.isCell, D.toL, oLoad, oStore, oAlloc, oBox, oBuild, oBuildSlice, oMake, oAppend, oIndexAddr, oFieldAddr, oField, oExtract, oNil, oSlice, oLen, oConvert, rowLoad, fillA, fillR, slB, dk, dks, dkRows, frz, loOf, hiOf, lenOf, rowsOf, nilV, lenV, putAt, views, viewsOk, CK.av, CK.ok, AV.cells, AV.one, Value.oneCell', Value.cells, pureAbs, nrm, nrm.nrmL, hpAt, sh, AV.ren, AV.ren.renL, Blk.ren, fpOf, footO, foot, blkIds, AV.ids, AV.ids.idsL, Op.operands, Call.operands, List.find?_cons, List.find?_nil, Nat.reduceBEq, beq_self_eq_true, List.map_cons, List.map_nil, List.getD_cons_zero, List.getD_cons_succ, List.getD_nil, List.set_cons_zero, List.set_cons_succ, List.length_cons, List.length_nil, List.replicate, List.cons_append, List.nil_append, List.append_nil, List.getElem?_cons_zero, List.getElem?_cons_succ, List.getElem?_toArray, List.getElem?_nil, List.take_zero, List.take_succ_cons, List.take_nil, List.drop_zero, List.drop_succ_cons, List.drop_nil, List.headD_cons, List.tail_cons, List.flatten_cons, List.flatten_nil, List.flatMap_cons, List.flatMap_nil, List.toList_toArray, Array.toList_append, Option.bind_some, Option.map_some, Option.map_none, Option.isSome_some, List.all_nil, List.all_cons, Bool.and_self, Bool.and_true, Bool.true_and, true_and, and_true, ↓reduceIte, List.size_toArray, Bool.false_eq_true, Bool.true_eq_false, false_implies, true_implies, Bool.not_true, Bool.not_false, and_self, implies_true, decide_true, decide_false, Nat.reduceAdd, Nat.reduceMul, Nat.reduceLT, Nat.reduceSub, Nat.reduceLeDiff, Nat.reduceEqDiff, eq_self, ne_eq, not_false_eq_true, false_and, and_false, reduceCtorEq, List.filter_nil, List.filter_cons, List.isEmpty_nil, List.isEmpty_cons, bne_self_eq_false, Nat.reduceBneDiff, Nat.lt_add_one, Nat.zero_lt_succ, List.append_assoc, Nat.zero_le, and_self_iff, Int.reduceToNat, List.any_nil, List.any_cons, List.filterMap_nil, List.filterMap_cons, List.contains_nil, List.contains_cons, Bool.or_false, Bool.false_or, Bool.or_true, Bool.true_or, Bool.false_and, Bool.and_false, decide_eq_true_eq, decide_eq_false_iff_not, beq_iff_eq, Int.toNat_natCast, loopK_normal, loopK_exit, loopK_ret, w2, w3, hlen]
      by_cases h : (j : Int) < (xs.length : Int)
      · rw [if_pos h, marks_set xs m j (by omega)]
        exact ⟨by omega, by omega, j + 1, [], by omega, by omega, by (refine ⟨?_, ?_, ?_⟩ <;> simp [fitT, fit1, fitH, fitB, trE, emptyB, rn, lk, AV.ren, AV.ren.renL, Blk.ren, blkIds, blkPids, AV.ids, AV.ids.idsL, AV.pids, AV.pids.pidsL, Blk.there]), by simp [keepIds, rn, List.range, List.range.loop]⟩
      · rw [if_neg h]
        obtain rfl : j = xs.length := by omega
        rw [List.drop_length, List.append_nil, Int.natCast_add]
        exact ⟨[], by (refine ⟨?_, ?_, ?_⟩ <;> simp [fitT, fit1, fitH, fitB, trE, emptyB, rn, lk, AV.ren, AV.ren.renL, Blk.ren, blkIds, blkPids, AV.ids, AV.ids.idsL, AV.pids, AV.pids.pidsL, Blk.there]), by simp [keepIds, rn, List.range, List.range.loop]⟩
  · cases hg

/-! the exact laws of queries -/
def g_q1 : PC := fun args => match args with
  | [.agg [.v (.int .i64 k), .v (.int .i64 l), .v (.int .i64 a), .v (.int .i64 w)]] => some (True, .v (.bool true), [])
  | _ => none
def lawq1 : List (FuncId × Abs) := [(7, pureAbs g_toQuery), (24, pureAbs g_queryOk), (18, pureAbs g_queryOk)]
def g_q4 : PC := fun args => match args with
  | [.v (.int .i64 link), .v (.int .i64 addr), .agg [.v (.int .i64 k), .v (.int .i64 l), .v (.int .i64 a), .v (.int .i64 w)]] => some (True, .v (.bool true), [])
  | _ => none
theorem arel_nil {w : World} {Z : Nat → Prop} {L : Nat → Blk} {s : Nat → Value} : ARel w Z L s [] [] := ⟨rfl, fun i x y hx => by simp at hx⟩
theorem arel_cons {w : World} {Z : Nat → Prop} {L : Nat → Blk} {s : Nat → Value} {a : AV} {x : Value} {xa : List AV} {xs : List Value} (h : AVR w Z L s a x) (k : ARel w Z L s xa xs) : ARel w Z L s (a :: xa) (x :: xs) :=
  ⟨by simp [k.1], fun i y z hy hz => by
    cases i with
    | zero => simp at hy hz; subst hy; subst hz; exact h
    | succ i => exact k.2 i y z (by simpa using hy) (by simpa using hz)⟩
theorem avr_agg {w : World} {Z : Nat → Prop} {L : Nat → Blk} {s : Nat → Value} {xa : List AV} {xs : List Value} (k : ARel w Z L s xa xs) : AVR w Z L s (.agg xa) (.agg xs.toArray) := .agg _ _ k.1 k.2
theorem avr_q (w : World) (k l a q : Int) : AVR w (Zold w) (fun _ => .none) (fun _ => nilS) (.agg [.v (.int .i64 k), .v (.int .i64 l), .v (.int .i64 a), .v (.int .i64 q)]) (.agg #[.int .i64 k, .int .i64 l, .int .i64 a, .int .i64 q]) :=
  avr_agg (xs := [_, _, _, _]) (arel_cons (.v _) (arel_cons (.v _) (arel_cons (.v _) (arel_cons (.v _) arel_nil))))
end Go.Proofs.Ytheikjkfffepnaa
