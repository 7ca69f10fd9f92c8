import Derived.Test.YtoiieccdbldfiaaQb
import Derived.Test.YtoiieccdbldfiaaVg
set_option linter.unusedVariables false
set_option linter.unusedSimpArgs false
namespace Go.Proofs.Ytoiieccdbldfiaa
open Go.RowKit
set_option linter.unusedSimpArgs false

/-! the draws of notes -/
def wordV (xs : List UInt8) (p : Int) : Int := if pickV xs p 4 = 0 then pickV xs (p + 1) 3 else if pickV xs p 4 = 1 then 65535 - pickV xs (p + 1) 3 else pickV xs (p + 1) 256 * 256 + pickV xs (p + 1 + 1) 256
def wordQ (xs : List UInt8) (p : Int) : Int := if pickV xs p 4 = 0 then p + 1 + 1 else if pickV xs p 4 = 1 then p + 1 + 1 else p + 1 + 1 + 1
theorem wordQ_bd (xs : List UInt8) (p : Int) : p ≤ wordQ xs p ∧ wordQ xs p ≤ p + 3 := by
  unfold wordQ
  split
  · omega
  · split <;> omega
theorem word_bd (xs : List UInt8) (p : Int) (hp : p < 1000000000000) : (0 ≤ wordV xs p ∧ wordV xs p ≤ 65535) ∧ p ≤ wordQ xs p ∧ wordQ xs p ≤ p + 3 := by
  have a1 := pickV_nonneg xs (p + 1) 3 (by omega)
  have a2 := pickV_lt xs (p + 1) 3 (by omega)
  have a3 := pickV_nonneg xs (p + 1) 256 (by omega)
  have a4 := pickV_lt xs (p + 1) 256 (by omega)
  have a5 := pickV_nonneg xs (p + 1 + 1) 256 (by omega)
  have a6 := pickV_lt xs (p + 1 + 1) 256 (by omega)
  unfold wordV wordQ
  split
  · omega
  · split <;> omega
structure NtW where
  k : Int
  n : Int
  d : List UInt8
  q : Int
def noN (xs : List UInt8) (p : Int) : Nat := (pickV xs (wordQ xs (p + 1)) 6).toNat
def noBase (xs : List UInt8) (p : Int) : NtW := ⟨1 + pickV xs p 6, wordV xs (p + 1), bytesV xs (wordQ xs (p + 1) + 1) (noN xs p), wordQ xs (p + 1) + 1 + 2 * (noN xs p : Int)⟩
def noE (xs : List UInt8) (b : NtW) (x : Int) : NtW :=
  if pickV xs x 3 = 0 then { b with k := pickV xs (x + 1) 3 * 7, q := x + 1 + 1 }
  else if pickV xs x 3 = 1 then { b with n := 65536 - pickV xs (x + 1) 2 * 70000, q := x + 1 + 1 }
  else { b with d := List.replicate 21 0, q := x + 1 }
def noV (xs : List UInt8) (p n : Int) : NtW := if (decide (0 < n) && pickV xs (noBase xs p).q n == n - 1) = true then noE xs (noBase xs p) ((noBase xs p).q + oneIf n) else { noBase xs p with q := (noBase xs p).q + oneIf n }
theorem noN_le (xs : List UInt8) (p : Int) : noN xs p ≤ 5 := by
  have := pickV_lt xs (wordQ xs (p + 1)) 6 (by omega)
  unfold noN; omega
theorem noBase_q (xs : List UInt8) (p : Int) : p ≤ (noBase xs p).q ∧ (noBase xs p).q ≤ p + 15 ∧ (noBase xs p).d.length ≤ 5 := by
  have h := noN_le xs p
  have h2 := wordQ_bd xs (p + 1)
  unfold noBase
  dsimp only
  rw [bytesV_len]
  omega
theorem noV_q (xs : List UInt8) (p n : Int) : p ≤ (noV xs p n).q ∧ (noV xs p n).q ≤ p + 20 ∧ (noV xs p n).d.length ≤ 21 := by
  have h := noBase_q xs p
  have := oneIf_le n
  unfold noV noE
  repeat' split
  all_goals (dsimp only; first | omega | (rw [List.length_replicate]; omega))
theorem noV_0 (xs : List UInt8) (p : Int) : noV xs p 0 = noBase xs p := by
  have e : (noBase xs p).q + oneIf 0 = (noBase xs p).q := by simp [oneIf]
  rw [noV, if_neg (by simp), e]
/-- a note that is drawn without a fault is one -/
theorem no_ok (xs : List UInt8) (p : Int) (hp : p < 100000000000) : noteB (noV xs p 0).k (noV xs p 0).n (noV xs p 0).d.length = true := by
  have h := noBase_q xs p
  have h2 := (word_bd xs (p + 1) (by omega)).1
  have a1 := pickV_nonneg xs p 6 (by omega)
  have a2 := pickV_lt xs p 6 (by omega)
  rw [noV_0, noteB, decide_eq_true_eq]
  refine ⟨?_, h2, by omega⟩
  show 1 ≤ 1 + pickV xs p 6 ∧ 1 + pickV xs p 6 ≤ 6
  omega
def g_word : OC := fun args B0 => match args, B0 with
  | [.ptr r o], [.var T [.l 1 rows, .v (.int .i64 p)]] => some (T = 77 ∧ r = 0 ∧ o = 0 ∧ (∃ xs, rows = rowsOfBytes xs ∧ xs.length ≤ 2000) ∧ 0 ≤ p ∧ p < 100000000000, .v (.int .i64 (wordV (bytesOfRows rows) p)), [.var T [.l 1 rows, .v (.int .i64 (wordQ (bytesOfRows rows) p))]], [])
  | _, _ => none
def g_note : OC := fun args B0 => match args, B0 with
  | [.ptr r o, .v (.int .i64 n)], [.var T [.l 1 rows, .v (.int .i64 p)]] => some (T = 77 ∧ r = 0 ∧ o = 0 ∧ (∃ xs, rows = rowsOfBytes xs ∧ xs.length ≤ 2000) ∧ 0 ≤ p ∧ p < 10000000000 ∧ 0 ≤ n ∧ n ≤ 1000000, .agg [.v (.int .i64 (noV (bytesOfRows rows) p n).k), .v (.int .i64 (noV (bytesOfRows rows) p n).n), .l 1 (rowsOfBytes (noV (bytesOfRows rows) p n).d)], [.var T [.l 1 rows, .v (.int .i64 (noV (bytesOfRows rows) p n).q)]], [])
  | _, _ => none
set_option maxRecDepth 100000 in
theorem word_ok : OwnOk Try.prog 71 g_word := by
  refine OwnOk.of_vcL (G := picks) picks_ok mixed Try.func71 (by kernel_rfl) rfl ?_
  intro args B0 cnd r B1 bs hg hc hlive
  unfold g_word at hg
  split at hg
  · rename_i r o T rows p
    cases hg
    obtain ⟨rfl, rfl, rfl, ⟨xs, rfl, hl⟩, hp0, hp1⟩ := hc
    rw [bytesOf_rows]
    have a1 := pickV_nonneg xs (p + 1) 3 (by omega)
    have a2 := pickV_lt xs (p + 1) 3 (by omega)
    have a3 := pickV_nonneg xs (p + 1) 256 (by omega)
    have a4 := pickV_lt xs (p + 1) 256 (by omega)
    have a5 := pickV_nonneg xs (p + 1 + 1) 256 (by omega)
    have a6 := pickV_lt xs (p + 1 + 1) 256 (by omega)
    have w1 : IntKind.i64.wrap (65535 - pickV xs (p + 1) 3) = 65535 - pickV xs (p + 1) 3 := wrap_id (by omega) (by omega)
    have w2 : IntKind.i64.wrap (pickV xs (p + 1) 256 * 256) = pickV xs (p + 1) 256 * 256 := wrap_id (by omega) (by omega)
    have w3 : IntKind.i64.wrap (pickV xs (p + 1) 256 * 256 + pickV xs (p + 1 + 1) 256) = pickV xs (p + 1) 256 * 256 + pickV xs (p + 1 + 1) 256 := wrap_id (by omega) (by omega)
    refine ⟨⟨by simp [likeBs, likeB], rfl, fun b hb => by simp at hb; subst hb; exact ⟨_, _, rfl, rfl⟩, by simp [AV.ids, AV.ids.idsL]⟩, _, rfl, fun w Z s vs h => h, ?_⟩
    clear hlive
    have hx : (∃ ys, rowsOfBytes xs = rowsOfBytes ys ∧ ys.length ≤ 2000) = True := eq_true ⟨xs, rfl, hl⟩
    simp (maxSteps := 3000000) only [Try.f71, picks, g_pick, w1, w2, w3, bytesOf_rows, rowsOf_len, hx, doneL_ret, doneL_normal, tY2, tY3, tY4, tY5, tY9, tY12, tY21, tY22, tY23, tY24, tY27, tY39, tY40, tY43, tY76, tY77, tY86, tY95, Try.underlying2, Try.underlying3, Try.underlying4, Try.underlying5, Try.underlying9, Try.underlying12, Try.underlying21, Try.underlying22, Try.underlying23, Try.underlying24, Try.underlying27, Try.underlying39, Try.underlying40, Try.underlying43, Try.underlying76, Try.underlying77, Try.underlying86, Try.underlying95, e_skip, e_label, e_ret, e_exit, e_seq, e_cond, e_block, e_region, seqK_normal, seqK_ret, seqK_exit, blkK_normal, blkK_ret, blkK_exit, condK_some, regK_true, regK_false, e_nil, e_cons, gateK_go, gateK_skip, gateK_ask, pickK_some, exK_some, x_pick, x_move, x_assign, x_alloc, x_box, x_build, x_buildSlice, x_load, x_store, x_binOp, x_unOp, x_convert, x_makeSlice, x_slice, x_fieldAddr, x_field, x_indexAddr, x_extract, x_nilCheck, x_call, x_len, x_append, x_min, oMin, x_copy, oCopy, eqAVs, callK_some, done_ret, done_normal, doneO_ret, doneO_normal, endsO_one, endsO_nil, endsO_more, ownAbs, frzAbs, leafs, leafs.leafsL, uniq, idxOf, bk, zipB, Blk.liveB, gate_none, gate_some, gateS_none, gateS_some, gateV_bool, gateV_undef, boolOf, evA, putT, refn, fpD, oBin, oUn, upsl, upl, up, ups, lk, dstsOf, resL, resA, packA, oLoadQ, oLoadKid, oStoreQ, oStoreTree, oBuildSliceQ, oBuildTree, oAppendQ, oAppendTree, isTr, isTrP, tkd, tkds, tkRows, ownOf, nodupB, deadL, treeOf, kidAbs, kidBlk, kidRows, TK.isCell, D.toL, oLoad, oStore, oAlloc, oBox, oBuild, oBuildSlice, oMake, oAppend, oIndexAddr, oFieldAddr, oField, oExtract, oNil, oSlice, oLen, oConvert, rowLoad, fillA, fillR, slB, dk, dks, dkRows, frz, loOf, hiOf, lenOf, rowsOf, nilV, lenV, putAt, views, viewsOk, CK.av, CK.ok, AV.cells, AV.one, Value.oneCell', Value.cells, pureAbs, nrm, nrm.nrmL, hpAt, sh, AV.ren, AV.ren.renL, Blk.ren, fpOf, footO, foot, blkIds, AV.ids, AV.ids.idsL, Op.operands, Call.operands, List.find?_cons, List.find?_nil, Nat.reduceBEq, beq_self_eq_true, List.map_cons, List.map_nil, List.getD_cons_zero, List.getD_cons_succ, List.getD_nil, List.set_cons_zero, List.set_cons_succ, List.length_cons, List.length_nil, List.replicate, List.cons_append, List.nil_append, List.append_nil, List.getElem?_cons_zero, List.getElem?_cons_succ, List.getElem?_toArray, List.getElem?_nil, List.take_zero, List.take_succ_cons, List.take_nil, List.drop_zero, List.drop_succ_cons, List.drop_nil, List.headD_cons, List.tail_cons, List.flatten_cons, List.flatten_nil, List.flatMap_cons, List.flatMap_nil, List.toList_toArray, Array.toList_append, Option.bind_some, Option.map_some, Option.map_none, Option.isSome_some, List.all_nil, List.all_cons, Bool.and_self, Bool.and_true, Bool.true_and, true_and, and_true, ↓reduceIte, List.size_toArray, Bool.false_eq_true, Bool.true_eq_false, false_implies, true_implies, Bool.not_true, Bool.not_false, and_self, implies_true, decide_true, decide_false, Nat.reduceAdd, Nat.reduceMul, Nat.reduceLT, Nat.reduceSub, Nat.reduceLeDiff, Nat.reduceEqDiff, eq_self, ne_eq, not_false_eq_true, false_and, and_false, reduceCtorEq, List.filter_nil, List.filter_cons, List.isEmpty_nil, List.isEmpty_cons, bne_self_eq_false, Nat.reduceBneDiff, Nat.lt_add_one, Nat.zero_lt_succ, List.append_assoc, Nat.zero_le, and_self_iff, Int.reduceToNat, List.any_nil, List.any_cons, List.filterMap_nil, List.filterMap_cons, List.contains_nil, List.contains_cons, Bool.or_false, Bool.false_or, Bool.or_true, Bool.true_or, Bool.false_and, Bool.and_false, decide_eq_true_eq, decide_eq_false_iff_not, beq_iff_eq, Int.toNat_natCast]
    clear w1 w2 w3
    (repeat (refine And.intro ?_ ?_; focus (((repeat' apply And.intro) <;> first | exact rowsOf_w _ | omega | (simp only [List.length_append, rowsOf_len, List.length_cons, List.length_nil, marks_len, List.length_take, List.length_drop, List.length_set]; omega) | exact ⟨_, rfl⟩ | (refine ⟨_, rfl, ?_⟩; omega) | (refine ⟨_, rfl, ?_⟩; simp only [List.length_append, rowsOf_len, List.length_cons, List.length_nil, marks_len, List.length_take, List.length_drop, List.length_set]; omega) | kernel_rfl | (simp; done)); done)))
    by_cases h0 : pickV xs p 4 = 0
    · rw [if_pos h0, wordV, wordQ, if_pos h0, if_pos h0]
      (repeat (refine And.intro ?_ ?_; focus (((repeat' apply And.intro) <;> first | exact rowsOf_w _ | omega | (simp only [List.length_append, rowsOf_len, List.length_cons, List.length_nil, marks_len, List.length_take, List.length_drop, List.length_set]; omega) | exact ⟨_, rfl⟩ | (refine ⟨_, rfl, ?_⟩; omega) | (refine ⟨_, rfl, ?_⟩; simp only [List.length_append, rowsOf_len, List.length_cons, List.length_nil, marks_len, List.length_take, List.length_drop, List.length_set]; omega) | kernel_rfl | (simp; done)); done)))
      exact ⟨_, rfl, rfl, rfl⟩
    · rw [if_neg h0, wordV, wordQ, if_neg h0, if_neg h0]
      by_cases h1 : pickV xs p 4 = 1
      · rw [if_pos h1, if_pos h1, if_pos h1]
        (repeat (refine And.intro ?_ ?_; focus (((repeat' apply And.intro) <;> first | exact rowsOf_w _ | omega | (simp only [List.length_append, rowsOf_len, List.length_cons, List.length_nil, marks_len, List.length_take, List.length_drop, List.length_set]; omega) | exact ⟨_, rfl⟩ | (refine ⟨_, rfl, ?_⟩; omega) | (refine ⟨_, rfl, ?_⟩; simp only [List.length_append, rowsOf_len, List.length_cons, List.length_nil, marks_len, List.length_take, List.length_drop, List.length_set]; omega) | kernel_rfl | (simp; done)); done)))
        exact ⟨_, rfl, rfl, rfl⟩
      · rw [if_neg h1, if_neg h1, if_neg h1]
        (repeat (refine And.intro ?_ ?_; focus (((repeat' apply And.intro) <;> first | exact rowsOf_w _ | omega | (simp only [List.length_append, rowsOf_len, List.length_cons, List.length_nil, marks_len, List.length_take, List.length_drop, List.length_set]; omega) | exact ⟨_, rfl⟩ | (refine ⟨_, rfl, ?_⟩; omega) | (refine ⟨_, rfl, ?_⟩; simp only [List.length_append, rowsOf_len, List.length_cons, List.length_nil, marks_len, List.length_take, List.length_drop, List.length_set]; omega) | kernel_rfl | (simp; done)); done)))
        exact ⟨_, rfl, rfl, rfl⟩
  · cases hg
def readw : List (FuncId × Abs) := [(69, ownAbs g_pick), (80, ownAbs g_odd), (79, ownAbs g_bytes), (71, ownAbs g_word)]
theorem readw_ok : ∀ p ∈ readw, CallOk Try.prog p.1 p.2 := by
  intro p hp
  simp only [readw, List.mem_cons, List.not_mem_nil, or_false] at hp
  rcases hp with rfl | rfl | rfl | rfl
  · exact pick_ok.call
  · exact odd_ok.call
  · exact bytes_ok.call
  · exact word_ok.call
set_option maxHeartbeats 4000000 in
set_option maxRecDepth 100000 in
theorem l20Note_ok : OwnOk Try.prog 67 g_note := by
  refine OwnOk.of_vcL (G := readw) readw_ok mixed Try.func67 (by kernel_rfl) rfl ?_
  intro args B0 cnd r B1 bs hg hc hlive
  unfold g_note at hg
  split at hg
  · rename_i r o n T rows p
    cases hg
    obtain ⟨rfl, rfl, rfl, ⟨xs, rfl, hl⟩, hp0, hp1, hn0, hn1⟩ := hc
    rw [bytesOf_rows]
    have a1 := pickV_nonneg xs p 6 (by omega)
    have a2 := pickV_lt xs p 6 (by omega)
    have hw := wordQ_bd xs (p + 1)
    have k0 := pickV_nonneg xs (wordQ xs (p + 1)) 6 (by omega)
    have k1 := pickV_lt xs (wordQ xs (p + 1)) 6 (by omega)
    obtain ⟨W, hW⟩ : ∃ W, W = wordQ xs (p + 1) := ⟨_, rfl⟩
    have hW' := hW.symm
    rw [hW'] at hw k0 k1
    obtain ⟨N, hN⟩ : ∃ N, N = noN xs p := ⟨_, rfl⟩
    have hN' : (pickV xs W 6).toNat = N := by rw [hN, noN, hW']
    obtain ⟨q, hq⟩ : ∃ q, q = W + 1 + 2 * (N : Int) := ⟨_, rfl⟩
    have hq' := hq.symm
    obtain ⟨e, he⟩ : ∃ e, e = oneIf n := ⟨_, rfl⟩
    have be := oneIf_le n
    rw [← he] at be
    have he' : (if 0 < n then (1 : Int) else 0) = e := he.symm
    have bq : p ≤ q ∧ q < p + 30 := by omega
    have hB : noBase xs p = ⟨1 + pickV xs p 6, wordV xs (p + 1), bytesV xs (W + 1) N, q⟩ := by rw [noBase, ← hN, hW', hq']
    have b1 := pickV_nonneg xs (q + e + 1) 3 (by omega)
    have b2 := pickV_lt xs (q + e + 1) 3 (by omega)
    have b3 := pickV_nonneg xs (q + e + 1) 2 (by omega)
    have b4 := pickV_lt xs (q + e + 1) 2 (by omega)
    have w1 : IntKind.i64.wrap (1 + pickV xs p 6) = 1 + pickV xs p 6 := wrap_id (by omega) (by omega)
    have w2 : IntKind.i64.wrap (pickV xs (q + e + 1) 3 * 7) = pickV xs (q + e + 1) 3 * 7 := wrap_id (by omega) (by omega)
    have w3 : IntKind.i64.wrap (pickV xs (q + e + 1) 2 * 70000) = pickV xs (q + e + 1) 2 * 70000 := wrap_id (by omega) (by omega)
    have w4 : IntKind.i64.wrap (65536 - pickV xs (q + e + 1) 2 * 70000) = 65536 - pickV xs (q + e + 1) 2 * 70000 := wrap_id (by omega) (by omega)
    refine ⟨⟨by simp [likeBs, likeB], rfl, fun b hb => by simp at hb; subst hb; exact ⟨_, _, rfl, rfl⟩, by simp [AV.ids, AV.ids.idsL]⟩, _, rfl, fun w Z s vs h => h, ?_⟩
    clear hlive
    have hx : (∃ ys, rowsOfBytes xs = rowsOfBytes ys ∧ ys.length ≤ 2000) = True := eq_true ⟨xs, rfl, hl⟩
    simp (maxSteps := 3000000) only [Try.f67, readw, g_pick, g_odd, g_bytes, g_word, hW', hN', hq', he', w1, w2, w3, w4, bytesOf_rows, rowsOf_len, hx, doneL_ret, doneL_normal, tY2, tY3, tY4, tY5, tY9, tY12, tY21, tY22, tY23, tY24, tY27, tY39, tY40, tY43, tY76, tY77, tY86, tY95, Try.underlying2, Try.underlying3, Try.underlying4, Try.underlying5, Try.underlying9, Try.underlying12, Try.underlying21, Try.underlying22, Try.underlying23, Try.underlying24, Try.underlying27, Try.underlying39, Try.underlying40, Try.underlying43, Try.underlying76, Try.underlying77, Try.underlying86, Try.underlying95, e_skip, e_label, e_ret, e_exit, e_seq, e_cond, e_block, e_region, seqK_normal, seqK_ret, seqK_exit, blkK_normal, blkK_ret, blkK_exit, condK_some, regK_true, regK_false, e_nil, e_cons, gateK_go, gateK_skip, gateK_ask, pickK_some, exK_some, x_pick, x_move, x_assign, x_alloc, x_box, x_build, x_buildSlice, x_load, x_store, x_binOp, x_unOp, x_convert, x_makeSlice, x_slice, x_fieldAddr, x_field, x_indexAddr, x_extract, x_nilCheck, x_call, x_len, x_append, x_min, oMin, x_copy, oCopy, eqAVs, callK_some, done_ret, done_normal, doneO_ret, doneO_normal, endsO_one, endsO_nil, endsO_more, ownAbs, frzAbs, leafs, leafs.leafsL, uniq, idxOf, bk, zipB, Blk.liveB, gate_none, gate_some, gateS_none, gateS_some, gateV_bool, gateV_undef, boolOf, evA, putT, refn, fpD, oBin, oUn, upsl, upl, up, ups, lk, dstsOf, resL, resA, packA, oLoadQ, oLoadKid, oStoreQ, oStoreTree, oBuildSliceQ, oBuildTree, oAppendQ, oAppendTree, isTr, isTrP, tkd, tkds, tkRows, ownOf, nodupB, deadL, treeOf, kidAbs, kidBlk, kidRows, TK.isCell, D.toL, oLoad, oStore, oAlloc, oBox, oBuild, oBuildSlice, oMake, oAppend, oIndexAddr, oFieldAddr, oField, oExtract, oNil, oSlice, oLen, oConvert, rowLoad, fillA, fillR, slB, dk, dks, dkRows, frz, loOf, hiOf, lenOf, rowsOf, nilV, lenV, putAt, views, viewsOk, CK.av, CK.ok, AV.cells, AV.one, Value.oneCell', Value.cells, pureAbs, nrm, nrm.nrmL, hpAt, sh, AV.ren, AV.ren.renL, Blk.ren, fpOf, footO, foot, blkIds, AV.ids, AV.ids.idsL, Op.operands, Call.operands, List.find?_cons, List.find?_nil, Nat.reduceBEq, beq_self_eq_true, List.map_cons, List.map_nil, List.getD_cons_zero, List.getD_cons_succ, List.getD_nil, List.set_cons_zero, List.set_cons_succ, List.length_cons, List.length_nil, List.replicate, List.cons_append, List.nil_append, List.append_nil, List.getElem?_cons_zero, List.getElem?_cons_succ, List.getElem?_toArray, List.getElem?_nil, List.take_zero, List.take_succ_cons, List.take_nil, List.drop_zero, List.drop_succ_cons, List.drop_nil, List.headD_cons, List.tail_cons, List.flatten_cons, List.flatten_nil, List.flatMap_cons, List.flatMap_nil, List.toList_toArray, Array.toList_append, Option.bind_some, Option.map_some, Option.map_none, Option.isSome_some, List.all_nil, List.all_cons, Bool.and_self, Bool.and_true, Bool.true_and, true_and, and_true, ↓reduceIte, List.size_toArray, Bool.false_eq_true, Bool.true_eq_false, false_implies, true_implies, Bool.not_true, Bool.not_false, and_self, implies_true, decide_true, decide_false, Nat.reduceAdd, Nat.reduceMul, Nat.reduceLT, Nat.reduceSub, Nat.reduceLeDiff, Nat.reduceEqDiff, eq_self, ne_eq, not_false_eq_true, false_and, and_false, reduceCtorEq, List.filter_nil, List.filter_cons, List.isEmpty_nil, List.isEmpty_cons, bne_self_eq_false, Nat.reduceBneDiff, Nat.lt_add_one, Nat.zero_lt_succ, List.append_assoc, Nat.zero_le, and_self_iff, Int.reduceToNat, List.any_nil, List.any_cons, List.filterMap_nil, List.filterMap_cons, List.contains_nil, List.contains_cons, Bool.or_false, Bool.false_or, Bool.or_true, Bool.true_or, Bool.false_and, Bool.and_false, decide_eq_true_eq, decide_eq_false_iff_not, beq_iff_eq, Int.toNat_natCast]
    clear w1 w2 w3 w4 hq' he' hN'
    (repeat (refine And.intro ?_ ?_; focus (((repeat' apply And.intro) <;> first | exact rowsOf_w _ | omega | (simp only [List.length_append, rowsOf_len, List.length_cons, List.length_nil, marks_len, List.length_take, List.length_drop, List.length_set]; omega) | exact ⟨_, rfl⟩ | (refine ⟨_, rfl, ?_⟩; omega) | (refine ⟨_, rfl, ?_⟩; simp only [List.length_append, rowsOf_len, List.length_cons, List.length_nil, marks_len, List.length_take, List.length_drop, List.length_set]; omega) | kernel_rfl | (simp; done)); done)))
    by_cases ho : (decide (0 < n) && pickV xs q n == n - 1) = true
    · rw [if_pos ho]
      (repeat (refine And.intro ?_ ?_; focus (((repeat' apply And.intro) <;> first | exact rowsOf_w _ | omega | (simp only [List.length_append, rowsOf_len, List.length_cons, List.length_nil, marks_len, List.length_take, List.length_drop, List.length_set]; omega) | exact ⟨_, rfl⟩ | (refine ⟨_, rfl, ?_⟩; omega) | (refine ⟨_, rfl, ?_⟩; simp only [List.length_append, rowsOf_len, List.length_cons, List.length_nil, marks_len, List.length_take, List.length_drop, List.length_set]; omega) | kernel_rfl | (simp; done)); done)))
      by_cases h0 : pickV xs (q + e) 3 = 0
      · rw [if_pos h0]
        (repeat (refine And.intro ?_ ?_; focus (((repeat' apply And.intro) <;> first | exact rowsOf_w _ | omega | (simp only [List.length_append, rowsOf_len, List.length_cons, List.length_nil, marks_len, List.length_take, List.length_drop, List.length_set]; omega) | exact ⟨_, rfl⟩ | (refine ⟨_, rfl, ?_⟩; omega) | (refine ⟨_, rfl, ?_⟩; simp only [List.length_append, rowsOf_len, List.length_cons, List.length_nil, marks_len, List.length_take, List.length_drop, List.length_set]; omega) | kernel_rfl | (simp; done)); done)))
        have hv : noV xs p n = ⟨pickV xs (q + e + 1) 3 * 7, wordV xs (p + 1), bytesV xs (W + 1) N, q + e + 1 + 1⟩ := by rw [noV, hB, if_pos ho, noE, ← he, if_pos h0]
        rw [hv]
        exact ⟨_, rfl, rfl, rfl⟩
      · rw [if_neg h0]
        by_cases h1 : pickV xs (q + e) 3 = 1
        · rw [if_pos h1]
          (repeat (refine And.intro ?_ ?_; focus (((repeat' apply And.intro) <;> first | exact rowsOf_w _ | omega | (simp only [List.length_append, rowsOf_len, List.length_cons, List.length_nil, marks_len, List.length_take, List.length_drop, List.length_set]; omega) | exact ⟨_, rfl⟩ | (refine ⟨_, rfl, ?_⟩; omega) | (refine ⟨_, rfl, ?_⟩; simp only [List.length_append, rowsOf_len, List.length_cons, List.length_nil, marks_len, List.length_take, List.length_drop, List.length_set]; omega) | kernel_rfl | (simp; done)); done)))
          have hv : noV xs p n = ⟨1 + pickV xs p 6, 65536 - pickV xs (q + e + 1) 2 * 70000, bytesV xs (W + 1) N, q + e + 1 + 1⟩ := by rw [noV, hB, if_pos ho, noE, ← he, if_neg h0, if_pos h1]
          rw [hv]
          exact ⟨_, rfl, rfl, rfl⟩
        · rw [if_neg h1]
          (repeat (refine And.intro ?_ ?_; focus (((repeat' apply And.intro) <;> first | exact rowsOf_w _ | omega | (simp only [List.length_append, rowsOf_len, List.length_cons, List.length_nil, marks_len, List.length_take, List.length_drop, List.length_set]; omega) | exact ⟨_, rfl⟩ | (refine ⟨_, rfl, ?_⟩; omega) | (refine ⟨_, rfl, ?_⟩; simp only [List.length_append, rowsOf_len, List.length_cons, List.length_nil, marks_len, List.length_take, List.length_drop, List.length_set]; omega) | kernel_rfl | (simp; done)); done)))
          have hv : noV xs p n = ⟨1 + pickV xs p 6, wordV xs (p + 1), List.replicate 21 0, q + e + 1⟩ := by rw [noV, hB, if_pos ho, noE, ← he, if_neg h0, if_neg h1]
          rw [hv]
          exact ⟨_, rfl, rfl, rfl⟩
    · rw [if_neg ho]
      (repeat (refine And.intro ?_ ?_; focus (((repeat' apply And.intro) <;> first | exact rowsOf_w _ | omega | (simp only [List.length_append, rowsOf_len, List.length_cons, List.length_nil, marks_len, List.length_take, List.length_drop, List.length_set]; omega) | exact ⟨_, rfl⟩ | (refine ⟨_, rfl, ?_⟩; omega) | (refine ⟨_, rfl, ?_⟩; simp only [List.length_append, rowsOf_len, List.length_cons, List.length_nil, marks_len, List.length_take, List.length_drop, List.length_set]; omega) | kernel_rfl | (simp; done)); done)))
      have hv : noV xs p n = ⟨1 + pickV xs p 6, wordV xs (p + 1), bytesV xs (W + 1) N, q + e⟩ := by rw [noV, hB, if_neg ho, ← he]
      rw [hv]
      exact ⟨_, rfl, rfl, rfl⟩
  · cases hg
/-- a packet that is often a note -/
def ndV (xs : List UInt8) (p n : Int) : PkV :=
  if 0 < pickV xs (pktV xs p n).q 3 then
    { pktV xs p n with pr := 1, a := 0, m := false, u := false, d := ntV (if pickV xs (noV xs ((pktV xs p n).q + 1) 0).q 2 = 0 then 1 else (noV xs ((pktV xs p n).q + 1) 0).k) (noV xs ((pktV xs p n).q + 1) 0).n (noV xs ((pktV xs p n).q + 1) 0).d, q := (noV xs ((pktV xs p n).q + 1) 0).q + 1 }
  else { pktV xs p n with q := (pktV xs p n).q + 1 }
theorem ndV_q (xs : List UInt8) (p n : Int) : p ≤ (ndV xs p n).q ∧ (ndV xs p n).q < p + 80 ∧ (ndV xs p n).d.length ≤ 49 := by
  have h := pktV_q xs p n
  have h2 := noV_q xs ((pktV xs p n).q + 1) 0
  unfold ndV
  split
  · dsimp only
    have := nt_le (if pickV xs (noV xs ((pktV xs p n).q + 1) 0).q 2 = 0 then 1 else (noV xs ((pktV xs p n).q + 1) 0).k) (noV xs ((pktV xs p n).q + 1) 0).n (noV xs ((pktV xs p n).q + 1) 0).d
    omega
  · dsimp only; omega
def g_noted : OC := fun args B0 => match args, B0 with
  | [.ptr r o, .v (.int .i64 n)], [.var T [.l 1 rows, .v (.int .i64 p)]] => some (T = 77 ∧ r = 0 ∧ o = 0 ∧ (∃ xs, rows = rowsOfBytes xs ∧ xs.length ≤ 2000) ∧ 0 ≤ p ∧ p < 1000000000 ∧ 0 ≤ n ∧ n ≤ 1000000, .agg [.v (.int .i64 (ndV (bytesOfRows rows) p n).f), .v (.int .i64 (ndV (bytesOfRows rows) p n).t), .v (.int .i64 (ndV (bytesOfRows rows) p n).pr), .v (.int .i64 (ndV (bytesOfRows rows) p n).h), .v (.int .i64 (ndV (bytesOfRows rows) p n).i), .v (.int .i64 (ndV (bytesOfRows rows) p n).a), .v (.bool (ndV (bytesOfRows rows) p n).m), .v (.bool (ndV (bytesOfRows rows) p n).u), .l 1 (rowsOfBytes (ndV (bytesOfRows rows) p n).d)], [.var T [.l 1 rows, .v (.int .i64 (ndV (bytesOfRows rows) p n).q)]], [])
  | _, _ => none
def readn : List (FuncId × Abs) := [(69, ownAbs g_pick), (81, ownAbs g_packet), (67, ownAbs g_note), (20, pureAbs g_noteBytes)]
theorem readn_ok : ∀ p ∈ readn, CallOk Try.prog p.1 p.2 := by
  intro p hp
  simp only [readn, List.mem_cons, List.not_mem_nil, or_false] at hp
  rcases hp with rfl | rfl | rfl | rfl
  · exact pick_ok.call
  · exact packet_ok.call
  · exact l20Note_ok.call
  · exact specNoteBytes_ok.call
set_option maxHeartbeats 4000000 in
set_option maxRecDepth 100000 in
theorem l20Noted_ok : OwnOk Try.prog 70 g_noted := by
  refine OwnOk.of_vcL (G := readn) readn_ok mixed Try.func70 (by kernel_rfl) rfl ?_
  intro args B0 cnd r B1 bs hg hc hlive
  unfold g_noted at hg
  split at hg
  · rename_i r o n T rows p
    cases hg
    obtain ⟨rfl, rfl, rfl, ⟨xs, rfl, hl⟩, hp0, hp1, hn0, hn1⟩ := hc
    rw [bytesOf_rows]
    have hb := pktV_q xs p n
    obtain ⟨V, hV⟩ : ∃ V, V = pktV xs p n := ⟨_, rfl⟩
    have hV' := hV.symm
    rw [hV'] at hb
    have hb2 := noV_q xs (V.q + 1) 0
    obtain ⟨W, hW⟩ : ∃ W, W = noV xs (V.q + 1) 0 := ⟨_, rfl⟩
    have hW' := hW.symm
    rw [hW'] at hb2
    clear hV hW
    refine ⟨⟨by simp [likeBs, likeB], rfl, fun b hb => by simp at hb; subst hb; exact ⟨_, _, rfl, rfl⟩, by simp [AV.ids, AV.ids.idsL]⟩, _, rfl, fun w Z s vs h => h, ?_⟩
    clear hlive
    have hx : (∃ ys, rowsOfBytes xs = rowsOfBytes ys ∧ ys.length ≤ 2000) = True := eq_true ⟨xs, rfl, hl⟩
    by_cases hc0 : 0 < pickV xs V.q 3
    · by_cases hc1 : pickV xs W.q 2 = 0
      · have h0 : (pickV xs V.q 3 > 0) = True := eq_true hc0
        have h1 : (pickV xs W.q 2 = 0) = True := eq_true hc1
        have hv : ndV xs p n = { V with pr := 1, a := 0, m := false, u := false, d := ntV 1 W.n W.d, q := W.q + 1 } := by rw [ndV, hV', if_pos hc0, hW', if_pos hc1]
        rw [hv]
        simp (maxSteps := 3000000) only [Try.f70, readn, g_pick, g_packet, g_note, g_noteBytes, hV', hW', h0, h1, bytesOf_rows, rowsOf_len, hx, doneL_ret, doneL_normal, tY2, tY3, tY4, tY5, tY9, tY12, tY21, tY22, tY23, tY24, tY27, tY39, tY40, tY43, tY76, tY77, tY86, tY95, Try.underlying2, Try.underlying3, Try.underlying4, Try.underlying5, Try.underlying9, Try.underlying12, Try.underlying21, Try.underlying22, Try.underlying23, Try.underlying24, Try.underlying27, Try.underlying39, Try.underlying40, Try.underlying43, Try.underlying76, Try.underlying77, Try.underlying86, Try.underlying95, e_skip, e_label, e_ret, e_exit, e_seq, e_cond, e_block, e_region, seqK_normal, seqK_ret, seqK_exit, blkK_normal, blkK_ret, blkK_exit, condK_some, regK_true, regK_false, e_nil, e_cons, gateK_go, gateK_skip, gateK_ask, pickK_some, exK_some, x_pick, x_move, x_assign, x_alloc, x_box, x_build, x_buildSlice, x_load, x_store, x_binOp, x_unOp, x_convert, x_makeSlice, x_slice, x_fieldAddr, x_field, x_indexAddr, x_extract, x_nilCheck, x_call, x_len, x_append, x_min, oMin, x_copy, oCopy, eqAVs, callK_some, done_ret, done_normal, doneO_ret, doneO_normal, endsO_one, endsO_nil, endsO_more, ownAbs, frzAbs, leafs, leafs.leafsL, uniq, idxOf, bk, zipB, Blk.liveB, gate_none, gate_some, gateS_none, gateS_some, gateV_bool, gateV_undef, boolOf, evA, putT, refn, fpD, oBin, oUn, upsl, upl, up, ups, lk, dstsOf, resL, resA, packA, oLoadQ, oLoadKid, oStoreQ, oStoreTree, oBuildSliceQ, oBuildTree, oAppendQ, oAppendTree, isTr, isTrP, tkd, tkds, tkRows, ownOf, nodupB, deadL, treeOf, kidAbs, kidBlk, kidRows, TK.isCell, D.toL, oLoad, oStore, oAlloc, oBox, oBuild, oBuildSlice, oMake, oAppend, oIndexAddr, oFieldAddr, oField, oExtract, oNil, oSlice, oLen, oConvert, rowLoad, fillA, fillR, slB, dk, dks, dkRows, frz, loOf, hiOf, lenOf, rowsOf, nilV, lenV, putAt, views, viewsOk, CK.av, CK.ok, AV.cells, AV.one, Value.oneCell', Value.cells, pureAbs, nrm, nrm.nrmL, hpAt, sh, AV.ren, AV.ren.renL, Blk.ren, fpOf, footO, foot, blkIds, AV.ids, AV.ids.idsL, Op.operands, Call.operands, List.find?_cons, List.find?_nil, Nat.reduceBEq, beq_self_eq_true, List.map_cons, List.map_nil, List.getD_cons_zero, List.getD_cons_succ, List.getD_nil, List.set_cons_zero, List.set_cons_succ, List.length_cons, List.length_nil, List.replicate, List.cons_append, List.nil_append, List.append_nil, List.getElem?_cons_zero, List.getElem?_cons_succ, List.getElem?_toArray, List.getElem?_nil, List.take_zero, List.take_succ_cons, List.take_nil, List.drop_zero, List.drop_succ_cons, List.drop_nil, List.headD_cons, List.tail_cons, List.flatten_cons, List.flatten_nil, List.flatMap_cons, List.flatMap_nil, List.toList_toArray, Array.toList_append, Option.bind_some, Option.map_some, Option.map_none, Option.isSome_some, List.all_nil, List.all_cons, Bool.and_self, Bool.and_true, Bool.true_and, true_and, and_true, ↓reduceIte, List.size_toArray, Bool.false_eq_true, Bool.true_eq_false, false_implies, true_implies, Bool.not_true, Bool.not_false, and_self, implies_true, decide_true, decide_false, Nat.reduceAdd, Nat.reduceMul, Nat.reduceLT, Nat.reduceSub, Nat.reduceLeDiff, Nat.reduceEqDiff, eq_self, ne_eq, not_false_eq_true, false_and, and_false, reduceCtorEq, List.filter_nil, List.filter_cons, List.isEmpty_nil, List.isEmpty_cons, bne_self_eq_false, Nat.reduceBneDiff, Nat.lt_add_one, Nat.zero_lt_succ, List.append_assoc, Nat.zero_le, and_self_iff, Int.reduceToNat, List.any_nil, List.any_cons, List.filterMap_nil, List.filterMap_cons, List.contains_nil, List.contains_cons, Bool.or_false, Bool.false_or, Bool.or_true, Bool.true_or, Bool.false_and, Bool.and_false, decide_eq_true_eq, decide_eq_false_iff_not, beq_iff_eq, Int.toNat_natCast]
        clear hV' hW' hv
        (repeat (refine And.intro ?_ ?_; focus (((repeat' apply And.intro) <;> first | exact rowsOf_w _ | omega | (simp only [List.length_append, rowsOf_len, List.length_cons, List.length_nil, marks_len, List.length_take, List.length_drop, List.length_set]; omega) | exact ⟨_, rfl⟩ | (refine ⟨_, rfl, ?_⟩; omega) | (refine ⟨_, rfl, ?_⟩; simp only [List.length_append, rowsOf_len, List.length_cons, List.length_nil, marks_len, List.length_take, List.length_drop, List.length_set]; omega) | kernel_rfl | (simp; done)); done)))
        exact ⟨_, rfl, rfl, rfl⟩
      · have h0 : (pickV xs V.q 3 > 0) = True := eq_true hc0
        have h1 : (pickV xs W.q 2 = 0) = False := eq_false hc1
        have hv : ndV xs p n = { V with pr := 1, a := 0, m := false, u := false, d := ntV W.k W.n W.d, q := W.q + 1 } := by rw [ndV, hV', if_pos hc0, hW', if_neg hc1]
        rw [hv]
        simp (maxSteps := 3000000) only [Try.f70, readn, g_pick, g_packet, g_note, g_noteBytes, hV', hW', h0, h1, bytesOf_rows, rowsOf_len, hx, doneL_ret, doneL_normal, tY2, tY3, tY4, tY5, tY9, tY12, tY21, tY22, tY23, tY24, tY27, tY39, tY40, tY43, tY76, tY77, tY86, tY95, Try.underlying2, Try.underlying3, Try.underlying4, Try.underlying5, Try.underlying9, Try.underlying12, Try.underlying21, Try.underlying22, Try.underlying23, Try.underlying24, Try.underlying27, Try.underlying39, Try.underlying40, Try.underlying43, Try.underlying76, Try.underlying77, Try.underlying86, Try.underlying95, e_skip, e_label, e_ret, e_exit, e_seq, e_cond, e_block, e_region, seqK_normal, seqK_ret, seqK_exit, blkK_normal, blkK_ret, blkK_exit, condK_some, regK_true, regK_false, e_nil, e_cons, gateK_go, gateK_skip, gateK_ask, pickK_some, exK_some, x_pick, x_move, x_assign, x_alloc, x_box, x_build, x_buildSlice, x_load, x_store, x_binOp, x_unOp, x_convert, x_makeSlice, x_slice, x_fieldAddr, x_field, x_indexAddr, x_extract, x_nilCheck, x_call, x_len, x_append, x_min, oMin, x_copy, oCopy, eqAVs, callK_some, done_ret, done_normal, doneO_ret, doneO_normal, endsO_one, endsO_nil, endsO_more, ownAbs, frzAbs, leafs, leafs.leafsL, uniq, idxOf, bk, zipB, Blk.liveB, gate_none, gate_some, gateS_none, gateS_some, gateV_bool, gateV_undef, boolOf, evA, putT, refn, fpD, oBin, oUn, upsl, upl, up, ups, lk, dstsOf, resL, resA, packA, oLoadQ, oLoadKid, oStoreQ, oStoreTree, oBuildSliceQ, oBuildTree, oAppendQ, oAppendTree, isTr, isTrP, tkd, tkds, tkRows, ownOf, nodupB, deadL, treeOf, kidAbs, kidBlk, kidRows, TK.isCell, D.toL, oLoad, oStore, oAlloc, oBox, oBuild, oBuildSlice, oMake, oAppend, oIndexAddr, oFieldAddr, oField, oExtract, oNil, oSlice, oLen, oConvert, rowLoad, fillA, fillR, slB, dk, dks, dkRows, frz, loOf, hiOf, lenOf, rowsOf, nilV, lenV, putAt, views, viewsOk, CK.av, CK.ok, AV.cells, AV.one, Value.oneCell', Value.cells, pureAbs, nrm, nrm.nrmL, hpAt, sh, AV.ren, AV.ren.renL, Blk.ren, fpOf, footO, foot, blkIds, AV.ids, AV.ids.idsL, Op.operands, Call.operands, List.find?_cons, List.find?_nil, Nat.reduceBEq, beq_self_eq_true, List.map_cons, List.map_nil, List.getD_cons_zero, List.getD_cons_succ, List.getD_nil, List.set_cons_zero, List.set_cons_succ, List.length_cons, List.length_nil, List.replicate, List.cons_append, List.nil_append, List.append_nil, List.getElem?_cons_zero, List.getElem?_cons_succ, List.getElem?_toArray, List.getElem?_nil, List.take_zero, List.take_succ_cons, List.take_nil, List.drop_zero, List.drop_succ_cons, List.drop_nil, List.headD_cons, List.tail_cons, List.flatten_cons, List.flatten_nil, List.flatMap_cons, List.flatMap_nil, List.toList_toArray, Array.toList_append, Option.bind_some, Option.map_some, Option.map_none, Option.isSome_some, List.all_nil, List.all_cons, Bool.and_self, Bool.and_true, Bool.true_and, true_and, and_true, ↓reduceIte, List.size_toArray, Bool.false_eq_true, Bool.true_eq_false, false_implies, true_implies, Bool.not_true, Bool.not_false, and_self, implies_true, decide_true, decide_false, Nat.reduceAdd, Nat.reduceMul, Nat.reduceLT, Nat.reduceSub, Nat.reduceLeDiff, Nat.reduceEqDiff, eq_self, ne_eq, not_false_eq_true, false_and, and_false, reduceCtorEq, List.filter_nil, List.filter_cons, List.isEmpty_nil, List.isEmpty_cons, bne_self_eq_false, Nat.reduceBneDiff, Nat.lt_add_one, Nat.zero_lt_succ, List.append_assoc, Nat.zero_le, and_self_iff, Int.reduceToNat, List.any_nil, List.any_cons, List.filterMap_nil, List.filterMap_cons, List.contains_nil, List.contains_cons, Bool.or_false, Bool.false_or, Bool.or_true, Bool.true_or, Bool.false_and, Bool.and_false, decide_eq_true_eq, decide_eq_false_iff_not, beq_iff_eq, Int.toNat_natCast]
        clear hV' hW' hv
        (repeat (refine And.intro ?_ ?_; focus (((repeat' apply And.intro) <;> first | exact rowsOf_w _ | omega | (simp only [List.length_append, rowsOf_len, List.length_cons, List.length_nil, marks_len, List.length_take, List.length_drop, List.length_set]; omega) | exact ⟨_, rfl⟩ | (refine ⟨_, rfl, ?_⟩; omega) | (refine ⟨_, rfl, ?_⟩; simp only [List.length_append, rowsOf_len, List.length_cons, List.length_nil, marks_len, List.length_take, List.length_drop, List.length_set]; omega) | kernel_rfl | (simp; done)); done)))
        exact ⟨_, rfl, rfl, rfl⟩
    · have h0 : (pickV xs V.q 3 > 0) = False := eq_false hc0
      have hv : ndV xs p n = { V with q := V.q + 1 } := by rw [ndV, hV', if_neg hc0]
      rw [hv]
      simp (maxSteps := 3000000) only [Try.f70, readn, g_pick, g_packet, g_note, g_noteBytes, hV', h0, bytesOf_rows, rowsOf_len, hx, doneL_ret, doneL_normal, tY2, tY3, tY4, tY5, tY9, tY12, tY21, tY22, tY23, tY24, tY27, tY39, tY40, tY43, tY76, tY77, tY86, tY95, Try.underlying2, Try.underlying3, Try.underlying4, Try.underlying5, Try.underlying9, Try.underlying12, Try.underlying21, Try.underlying22, Try.underlying23, Try.underlying24, Try.underlying27, Try.underlying39, Try.underlying40, Try.underlying43, Try.underlying76, Try.underlying77, Try.underlying86, Try.underlying95, e_skip, e_label, e_ret, e_exit, e_seq, e_cond, e_block, e_region, seqK_normal, seqK_ret, seqK_exit, blkK_normal, blkK_ret, blkK_exit, condK_some, regK_true, regK_false, e_nil, e_cons, gateK_go, gateK_skip, gateK_ask, pickK_some, exK_some, x_pick, x_move, x_assign, x_alloc, x_box, x_build, x_buildSlice, x_load, x_store, x_binOp, x_unOp, x_convert, x_makeSlice, x_slice, x_fieldAddr, x_field, x_indexAddr, x_extract, x_nilCheck, x_call, x_len, x_append, x_min, oMin, x_copy, oCopy, eqAVs, callK_some, done_ret, done_normal, doneO_ret, doneO_normal, endsO_one, endsO_nil, endsO_more, ownAbs, frzAbs, leafs, leafs.leafsL, uniq, idxOf, bk, zipB, Blk.liveB, gate_none, gate_some, gateS_none, gateS_some, gateV_bool, gateV_undef, boolOf, evA, putT, refn, fpD, oBin, oUn, upsl, upl, up, ups, lk, dstsOf, resL, resA, packA, oLoadQ, oLoadKid, oStoreQ, oStoreTree, oBuildSliceQ, oBuildTree, oAppendQ, oAppendTree, isTr, isTrP, tkd, tkds, tkRows, ownOf, nodupB, deadL, treeOf, kidAbs, kidBlk, kidRows, TK.isCell, D.toL, oLoad, oStore, oAlloc, oBox, oBuild, oBuildSlice, oMake, oAppend, oIndexAddr, oFieldAddr, oField, oExtract, oNil, oSlice, oLen, oConvert, rowLoad, fillA, fillR, slB, dk, dks, dkRows, frz, loOf, hiOf, lenOf, rowsOf, nilV, lenV, putAt, views, viewsOk, CK.av, CK.ok, AV.cells, AV.one, Value.oneCell', Value.cells, pureAbs, nrm, nrm.nrmL, hpAt, sh, AV.ren, AV.ren.renL, Blk.ren, fpOf, footO, foot, blkIds, AV.ids, AV.ids.idsL, Op.operands, Call.operands, List.find?_cons, List.find?_nil, Nat.reduceBEq, beq_self_eq_true, List.map_cons, List.map_nil, List.getD_cons_zero, List.getD_cons_succ, List.getD_nil, List.set_cons_zero, List.set_cons_succ, List.length_cons, List.length_nil, List.replicate, List.cons_append, List.nil_append, List.append_nil, List.getElem?_cons_zero, List.getElem?_cons_succ, List.getElem?_toArray, List.getElem?_nil, List.take_zero, List.take_succ_cons, List.take_nil, List.drop_zero, List.drop_succ_cons, List.drop_nil, List.headD_cons, List.tail_cons, List.flatten_cons, List.flatten_nil, List.flatMap_cons, List.flatMap_nil, List.toList_toArray, Array.toList_append, Option.bind_some, Option.map_some, Option.map_none, Option.isSome_some, List.all_nil, List.all_cons, Bool.and_self, Bool.and_true, Bool.true_and, true_and, and_true, ↓reduceIte, List.size_toArray, Bool.false_eq_true, Bool.true_eq_false, false_implies, true_implies, Bool.not_true, Bool.not_false, and_self, implies_true, decide_true, decide_false, Nat.reduceAdd, Nat.reduceMul, Nat.reduceLT, Nat.reduceSub, Nat.reduceLeDiff, Nat.reduceEqDiff, eq_self, ne_eq, not_false_eq_true, false_and, and_false, reduceCtorEq, List.filter_nil, List.filter_cons, List.isEmpty_nil, List.isEmpty_cons, bne_self_eq_false, Nat.reduceBneDiff, Nat.lt_add_one, Nat.zero_lt_succ, List.append_assoc, Nat.zero_le, and_self_iff, Int.reduceToNat, List.any_nil, List.any_cons, List.filterMap_nil, List.filterMap_cons, List.contains_nil, List.contains_cons, Bool.or_false, Bool.false_or, Bool.or_true, Bool.true_or, Bool.false_and, Bool.and_false, decide_eq_true_eq, decide_eq_false_iff_not, beq_iff_eq, Int.toNat_natCast]
      clear hV' hW' hv
      (repeat (refine And.intro ?_ ?_; focus (((repeat' apply And.intro) <;> first | exact rowsOf_w _ | omega | (simp only [List.length_append, rowsOf_len, List.length_cons, List.length_nil, marks_len, List.length_take, List.length_drop, List.length_set]; omega) | exact ⟨_, rfl⟩ | (refine ⟨_, rfl, ?_⟩; omega) | (refine ⟨_, rfl, ?_⟩; simp only [List.length_append, rowsOf_len, List.length_cons, List.length_nil, marks_len, List.length_take, List.length_drop, List.length_set]; omega) | kernel_rfl | (simp; done)); done)))
      exact ⟨_, rfl, rfl, rfl⟩
  · cases hg
def g_drawNt (n : Int) : PC := fun args => match args with
  | [.l _ rows] => some (∃ xs, rows = rowsOfBytes xs, .agg [.v (.int .i64 (noV ((bytesOfRows rows).take 2000) 0 n).k), .v (.int .i64 (noV ((bytesOfRows rows).take 2000) 0 n).n), .l 1 (rowsOfBytes (noV ((bytesOfRows rows).take 2000) 0 n).d)], [])
  | _ => none
def g_drawNd (n : Int) : PC := fun args => match args with
  | [.l _ rows] => some (∃ xs, rows = rowsOfBytes xs, .agg [.v (.int .i64 (ndV ((bytesOfRows rows).take 2000) 0 n).f), .v (.int .i64 (ndV ((bytesOfRows rows).take 2000) 0 n).t), .v (.int .i64 (ndV ((bytesOfRows rows).take 2000) 0 n).pr), .v (.int .i64 (ndV ((bytesOfRows rows).take 2000) 0 n).h), .v (.int .i64 (ndV ((bytesOfRows rows).take 2000) 0 n).i), .v (.int .i64 (ndV ((bytesOfRows rows).take 2000) 0 n).a), .v (.bool (ndV ((bytesOfRows rows).take 2000) 0 n).m), .v (.bool (ndV ((bytesOfRows rows).take 2000) 0 n).u), .l 1 (rowsOfBytes (ndV ((bytesOfRows rows).take 2000) 0 n).d)], [])
  | _ => none
def nfW (xs : List UInt8) : NtW := noV xs 0 0
def nfS (xs : List UInt8) : List UInt8 := ntV (nfW xs).k (nfW xs).n (nfW xs).d
def nfbV (xs : List UInt8) : List UInt8 :=
  if pickV xs (nfW xs).q 4 = 0 then (nfS xs).set (pickV xs ((nfW xs).q + 1) (nfS xs).length).toNat (toU8 (pickV xs ((nfW xs).q + 1 + 1) 30))
  else if pickV xs (nfW xs).q 4 = 1 then (nfS xs).take (pickV xs ((nfW xs).q + 1) (nfS xs).length).toNat
  else nfS xs
theorem nfbV_len (xs : List UInt8) : (nfbV xs).length ≤ 24 := by
  have := nt_le (nfW xs).k (nfW xs).n (nfW xs).d
  unfold nfbV nfS
  repeat' split
  all_goals try simp only [List.length_set, List.length_take]
  all_goals omega
def g_drawNb : PC := fun args => match args with
  | [.l _ rows] => some (∃ xs, rows = rowsOfBytes xs, .l 1 (rowsOfBytes (nfbV ((bytesOfRows rows).take 2000))), [])
  | _ => none
def nd1 : List (FuncId × Abs) := [(68, ownAbs g_open), (67, ownAbs g_note), (70, ownAbs g_noted), (69, ownAbs g_pick), (71, ownAbs g_word), (20, pureAbs g_noteBytes)]
theorem nd1_ok : ∀ p ∈ nd1, CallOk Try.prog p.1 p.2 := by
  intro p hp
  simp only [nd1, List.mem_cons, List.not_mem_nil, or_false] at hp
  rcases hp with rfl | rfl | rfl | rfl | rfl | rfl
  · exact open_ok.call
  · exact l20Note_ok.call
  · exact l20Noted_ok.call
  · exact pick_ok.call
  · exact word_ok.call
  · exact specNoteBytes_ok.call
set_option maxRecDepth 100000 in
theorem drawNoteOk_ok : OwnOk Try.prog 41 (ocOf (g_drawNt 2)) := by
  refine OwnOk.of_vcD (G := nd1) nd1_ok mixed Try.func41 (by kernel_rfl) rfl ?_
  intro args cnd r bs hg hc
  unfold g_drawNt at hg
  split at hg
  · rename_i sz rows
    cases hg
    obtain ⟨xs, rfl⟩ := hc
    rw [bytesOf_rows]
    have hx : (∃ ys, rowsOfBytes (List.take 2000 xs) = rowsOfBytes ys ∧ ys.length ≤ 2000) = True := eq_true ⟨_, rfl, by rw [List.length_take]; omega⟩
    refine ⟨⟨rfl, by simp [AV.ids, AV.ids.idsL]⟩, [.l 1 (rowsOfBytes xs)], rfl, fun w Z s vs h => CvL.ok (.cons (.l _ _ _ (rowsOf_w xs)) .nil) h, ?_⟩
    simp (maxSteps := 3000000) only [Try.f41, nd1, g_open, g_note, bytesOf_rows, rowsOf_len, hx, tY2, tY3, tY4, tY5, tY9, tY12, tY21, tY22, tY23, tY24, tY27, tY39, tY40, tY43, tY76, tY77, tY86, tY95, Try.underlying2, Try.underlying3, Try.underlying4, Try.underlying5, Try.underlying9, Try.underlying12, Try.underlying21, Try.underlying22, Try.underlying23, Try.underlying24, Try.underlying27, Try.underlying39, Try.underlying40, Try.underlying43, Try.underlying76, Try.underlying77, Try.underlying86, Try.underlying95, e_skip, e_label, e_ret, e_exit, e_seq, e_cond, e_block, e_region, seqK_normal, seqK_ret, seqK_exit, blkK_normal, blkK_ret, blkK_exit, condK_some, regK_true, regK_false, e_nil, e_cons, gateK_go, gateK_skip, gateK_ask, pickK_some, exK_some, x_pick, x_move, x_assign, x_alloc, x_box, x_build, x_buildSlice, x_load, x_store, x_binOp, x_unOp, x_convert, x_makeSlice, x_slice, x_fieldAddr, x_field, x_indexAddr, x_extract, x_nilCheck, x_call, x_len, x_append, x_min, oMin, x_copy, oCopy, eqAVs, callK_some, done_ret, done_normal, doneO_ret, doneO_normal, endsO_one, endsO_nil, endsO_more, ownAbs, frzAbs, leafs, leafs.leafsL, uniq, idxOf, bk, zipB, Blk.liveB, gate_none, gate_some, gateS_none, gateS_some, gateV_bool, gateV_undef, boolOf, evA, putT, refn, fpD, oBin, oUn, upsl, upl, up, ups, lk, dstsOf, resL, resA, packA, oLoadQ, oLoadKid, oStoreQ, oStoreTree, oBuildSliceQ, oBuildTree, oAppendQ, oAppendTree, isTr, isTrP, tkd, tkds, tkRows, ownOf, nodupB, deadL, treeOf, kidAbs, kidBlk, kidRows, TK.isCell, D.toL, oLoad, oStore, oAlloc, oBox, oBuild, oBuildSlice, oMake, oAppend, oIndexAddr, oFieldAddr, oField, oExtract, oNil, oSlice, oLen, oConvert, rowLoad, fillA, fillR, slB, dk, dks, dkRows, frz, loOf, hiOf, lenOf, rowsOf, nilV, lenV, putAt, views, viewsOk, CK.av, CK.ok, AV.cells, AV.one, Value.oneCell', Value.cells, pureAbs, nrm, nrm.nrmL, hpAt, sh, AV.ren, AV.ren.renL, Blk.ren, fpOf, footO, foot, blkIds, AV.ids, AV.ids.idsL, Op.operands, Call.operands, List.find?_cons, List.find?_nil, Nat.reduceBEq, beq_self_eq_true, List.map_cons, List.map_nil, List.getD_cons_zero, List.getD_cons_succ, List.getD_nil, List.set_cons_zero, List.set_cons_succ, List.length_cons, List.length_nil, List.replicate, List.cons_append, List.nil_append, List.append_nil, List.getElem?_cons_zero, List.getElem?_cons_succ, List.getElem?_toArray, List.getElem?_nil, List.take_zero, List.take_succ_cons, List.take_nil, List.drop_zero, List.drop_succ_cons, List.drop_nil, List.headD_cons, List.tail_cons, List.flatten_cons, List.flatten_nil, List.flatMap_cons, List.flatMap_nil, List.toList_toArray, Array.toList_append, Option.bind_some, Option.map_some, Option.map_none, Option.isSome_some, List.all_nil, List.all_cons, Bool.and_self, Bool.and_true, Bool.true_and, true_and, and_true, ↓reduceIte, List.size_toArray, Bool.false_eq_true, Bool.true_eq_false, false_implies, true_implies, Bool.not_true, Bool.not_false, and_self, implies_true, decide_true, decide_false, Nat.reduceAdd, Nat.reduceMul, Nat.reduceLT, Nat.reduceSub, Nat.reduceLeDiff, Nat.reduceEqDiff, eq_self, ne_eq, not_false_eq_true, false_and, and_false, reduceCtorEq, List.filter_nil, List.filter_cons, List.isEmpty_nil, List.isEmpty_cons, bne_self_eq_false, Nat.reduceBneDiff, Nat.lt_add_one, Nat.zero_lt_succ, List.append_assoc, Nat.zero_le, and_self_iff, Int.reduceToNat, List.any_nil, List.any_cons, List.filterMap_nil, List.filterMap_cons, List.contains_nil, List.contains_cons, Bool.or_false, Bool.false_or, Bool.or_true, Bool.true_or, Bool.false_and, Bool.and_false, decide_eq_true_eq, decide_eq_false_iff_not, beq_iff_eq, Int.toNat_natCast, doneD_ret, doneD_normal]
    (repeat (refine And.intro ?_ ?_; focus (((repeat' apply And.intro) <;> first | exact rowsOf_w _ | omega | (simp only [List.length_append, rowsOf_len, List.length_cons, List.length_nil, marks_len, List.length_take, List.length_drop, List.length_set]; omega) | exact ⟨_, rfl⟩ | (refine ⟨_, rfl, ?_⟩; omega) | (refine ⟨_, rfl, ?_⟩; simp only [List.length_append, rowsOf_len, List.length_cons, List.length_nil, marks_len, List.length_take, List.length_drop, List.length_set]; omega) | kernel_rfl | (simp; done)); done)))
    exact ⟨_, rfl, rfl⟩
  · cases hg
set_option maxRecDepth 100000 in
theorem drawNoteBytes_ok : OwnOk Try.prog 43 (ocOf (g_drawNt 6)) := by
  refine OwnOk.of_vcD (G := nd1) nd1_ok mixed Try.func43 (by kernel_rfl) rfl ?_
  intro args cnd r bs hg hc
  unfold g_drawNt at hg
  split at hg
  · rename_i sz rows
    cases hg
    obtain ⟨xs, rfl⟩ := hc
    rw [bytesOf_rows]
    have hx : (∃ ys, rowsOfBytes (List.take 2000 xs) = rowsOfBytes ys ∧ ys.length ≤ 2000) = True := eq_true ⟨_, rfl, by rw [List.length_take]; omega⟩
    refine ⟨⟨rfl, by simp [AV.ids, AV.ids.idsL]⟩, [.l 1 (rowsOfBytes xs)], rfl, fun w Z s vs h => CvL.ok (.cons (.l _ _ _ (rowsOf_w xs)) .nil) h, ?_⟩
    simp (maxSteps := 3000000) only [Try.f43, nd1, g_open, g_note, bytesOf_rows, rowsOf_len, hx, tY2, tY3, tY4, tY5, tY9, tY12, tY21, tY22, tY23, tY24, tY27, tY39, tY40, tY43, tY76, tY77, tY86, tY95, Try.underlying2, Try.underlying3, Try.underlying4, Try.underlying5, Try.underlying9, Try.underlying12, Try.underlying21, Try.underlying22, Try.underlying23, Try.underlying24, Try.underlying27, Try.underlying39, Try.underlying40, Try.underlying43, Try.underlying76, Try.underlying77, Try.underlying86, Try.underlying95, e_skip, e_label, e_ret, e_exit, e_seq, e_cond, e_block, e_region, seqK_normal, seqK_ret, seqK_exit, blkK_normal, blkK_ret, blkK_exit, condK_some, regK_true, regK_false, e_nil, e_cons, gateK_go, gateK_skip, gateK_ask, pickK_some, exK_some, x_pick, x_move, x_assign, x_alloc, x_box, x_build, x_buildSlice, x_load, x_store, x_binOp, x_unOp, x_convert, x_makeSlice, x_slice, x_fieldAddr, x_field, x_indexAddr, x_extract, x_nilCheck, x_call, x_len, x_append, x_min, oMin, x_copy, oCopy, eqAVs, callK_some, done_ret, done_normal, doneO_ret, doneO_normal, endsO_one, endsO_nil, endsO_more, ownAbs, frzAbs, leafs, leafs.leafsL, uniq, idxOf, bk, zipB, Blk.liveB, gate_none, gate_some, gateS_none, gateS_some, gateV_bool, gateV_undef, boolOf, evA, putT, refn, fpD, oBin, oUn, upsl, upl, up, ups, lk, dstsOf, resL, resA, packA, oLoadQ, oLoadKid, oStoreQ, oStoreTree, oBuildSliceQ, oBuildTree, oAppendQ, oAppendTree, isTr, isTrP, tkd, tkds, tkRows, ownOf, nodupB, deadL, treeOf, kidAbs, kidBlk, kidRows, TK.isCell, D.toL, oLoad, oStore, oAlloc, oBox, oBuild, oBuildSlice, oMake, oAppend, oIndexAddr, oFieldAddr, oField, oExtract, oNil, oSlice, oLen, oConvert, rowLoad, fillA, fillR, slB, dk, dks, dkRows, frz, loOf, hiOf, lenOf, rowsOf, nilV, lenV, putAt, views, viewsOk, CK.av, CK.ok, AV.cells, AV.one, Value.oneCell', Value.cells, pureAbs, nrm, nrm.nrmL, hpAt, sh, AV.ren, AV.ren.renL, Blk.ren, fpOf, footO, foot, blkIds, AV.ids, AV.ids.idsL, Op.operands, Call.operands, List.find?_cons, List.find?_nil, Nat.reduceBEq, beq_self_eq_true, List.map_cons, List.map_nil, List.getD_cons_zero, List.getD_cons_succ, List.getD_nil, List.set_cons_zero, List.set_cons_succ, List.length_cons, List.length_nil, List.replicate, List.cons_append, List.nil_append, List.append_nil, List.getElem?_cons_zero, List.getElem?_cons_succ, List.getElem?_toArray, List.getElem?_nil, List.take_zero, List.take_succ_cons, List.take_nil, List.drop_zero, List.drop_succ_cons, List.drop_nil, List.headD_cons, List.tail_cons, List.flatten_cons, List.flatten_nil, List.flatMap_cons, List.flatMap_nil, List.toList_toArray, Array.toList_append, Option.bind_some, Option.map_some, Option.map_none, Option.isSome_some, List.all_nil, List.all_cons, Bool.and_self, Bool.and_true, Bool.true_and, true_and, and_true, ↓reduceIte, List.size_toArray, Bool.false_eq_true, Bool.true_eq_false, false_implies, true_implies, Bool.not_true, Bool.not_false, and_self, implies_true, decide_true, decide_false, Nat.reduceAdd, Nat.reduceMul, Nat.reduceLT, Nat.reduceSub, Nat.reduceLeDiff, Nat.reduceEqDiff, eq_self, ne_eq, not_false_eq_true, false_and, and_false, reduceCtorEq, List.filter_nil, List.filter_cons, List.isEmpty_nil, List.isEmpty_cons, bne_self_eq_false, Nat.reduceBneDiff, Nat.lt_add_one, Nat.zero_lt_succ, List.append_assoc, Nat.zero_le, and_self_iff, Int.reduceToNat, List.any_nil, List.any_cons, List.filterMap_nil, List.filterMap_cons, List.contains_nil, List.contains_cons, Bool.or_false, Bool.false_or, Bool.or_true, Bool.true_or, Bool.false_and, Bool.and_false, decide_eq_true_eq, decide_eq_false_iff_not, beq_iff_eq, Int.toNat_natCast, doneD_ret, doneD_normal]
    (repeat (refine And.intro ?_ ?_; focus (((repeat' apply And.intro) <;> first | exact rowsOf_w _ | omega | (simp only [List.length_append, rowsOf_len, List.length_cons, List.length_nil, marks_len, List.length_take, List.length_drop, List.length_set]; omega) | exact ⟨_, rfl⟩ | (refine ⟨_, rfl, ?_⟩; omega) | (refine ⟨_, rfl, ?_⟩; simp only [List.length_append, rowsOf_len, List.length_cons, List.length_nil, marks_len, List.length_take, List.length_drop, List.length_set]; omega) | kernel_rfl | (simp; done)); done)))
    exact ⟨_, rfl, rfl⟩
  · cases hg
set_option maxRecDepth 100000 in
theorem drawNoteFault_ok : OwnOk Try.prog 47 (ocOf (g_drawNd 9)) := by
  refine OwnOk.of_vcD (G := nd1) nd1_ok mixed Try.func47 (by kernel_rfl) rfl ?_
  intro args cnd r bs hg hc
  unfold g_drawNd at hg
  split at hg
  · rename_i sz rows
    cases hg
    obtain ⟨xs, rfl⟩ := hc
    rw [bytesOf_rows]
    have hx : (∃ ys, rowsOfBytes (List.take 2000 xs) = rowsOfBytes ys ∧ ys.length ≤ 2000) = True := eq_true ⟨_, rfl, by rw [List.length_take]; omega⟩
    refine ⟨⟨rfl, by simp [AV.ids, AV.ids.idsL]⟩, [.l 1 (rowsOfBytes xs)], rfl, fun w Z s vs h => CvL.ok (.cons (.l _ _ _ (rowsOf_w xs)) .nil) h, ?_⟩
    simp (maxSteps := 3000000) only [Try.f47, nd1, g_open, g_noted, bytesOf_rows, rowsOf_len, hx, tY2, tY3, tY4, tY5, tY9, tY12, tY21, tY22, tY23, tY24, tY27, tY39, tY40, tY43, tY76, tY77, tY86, tY95, Try.underlying2, Try.underlying3, Try.underlying4, Try.underlying5, Try.underlying9, Try.underlying12, Try.underlying21, Try.underlying22, Try.underlying23, Try.underlying24, Try.underlying27, Try.underlying39, Try.underlying40, Try.underlying43, Try.underlying76, Try.underlying77, Try.underlying86, Try.underlying95, e_skip, e_label, e_ret, e_exit, e_seq, e_cond, e_block, e_region, seqK_normal, seqK_ret, seqK_exit, blkK_normal, blkK_ret, blkK_exit, condK_some, regK_true, regK_false, e_nil, e_cons, gateK_go, gateK_skip, gateK_ask, pickK_some, exK_some, x_pick, x_move, x_assign, x_alloc, x_box, x_build, x_buildSlice, x_load, x_store, x_binOp, x_unOp, x_convert, x_makeSlice, x_slice, x_fieldAddr, x_field, x_indexAddr, x_extract, x_nilCheck, x_call, x_len, x_append, x_min, oMin, x_copy, oCopy, eqAVs, callK_some, done_ret, done_normal, doneO_ret, doneO_normal, endsO_one, endsO_nil, endsO_more, ownAbs, frzAbs, leafs, leafs.leafsL, uniq, idxOf, bk, zipB, Blk.liveB, gate_none, gate_some, gateS_none, gateS_some, gateV_bool, gateV_undef, boolOf, evA, putT, refn, fpD, oBin, oUn, upsl, upl, up, ups, lk, dstsOf, resL, resA, packA, oLoadQ, oLoadKid, oStoreQ, oStoreTree, oBuildSliceQ, oBuildTree, oAppendQ, oAppendTree, isTr, isTrP, tkd, tkds, tkRows, ownOf, nodupB, deadL, treeOf, kidAbs, kidBlk, kidRows, TK.isCell, D.toL, oLoad, oStore, oAlloc, oBox, oBuild, oBuildSlice, oMake, oAppend, oIndexAddr, oFieldAddr, oField, oExtract, oNil, oSlice, oLen, oConvert, rowLoad, fillA, fillR, slB, dk, dks, dkRows, frz, loOf, hiOf, lenOf, rowsOf, nilV, lenV, putAt, views, viewsOk, CK.av, CK.ok, AV.cells, AV.one, Value.oneCell', Value.cells, pureAbs, nrm, nrm.nrmL, hpAt, sh, AV.ren, AV.ren.renL, Blk.ren, fpOf, footO, foot, blkIds, AV.ids, AV.ids.idsL, Op.operands, Call.operands, List.find?_cons, List.find?_nil, Nat.reduceBEq, beq_self_eq_true, List.map_cons, List.map_nil, List.getD_cons_zero, List.getD_cons_succ, List.getD_nil, List.set_cons_zero, List.set_cons_succ, List.length_cons, List.length_nil, List.replicate, List.cons_append, List.nil_append, List.append_nil, List.getElem?_cons_zero, List.getElem?_cons_succ, List.getElem?_toArray, List.getElem?_nil, List.take_zero, List.take_succ_cons, List.take_nil, List.drop_zero, List.drop_succ_cons, List.drop_nil, List.headD_cons, List.tail_cons, List.flatten_cons, List.flatten_nil, List.flatMap_cons, List.flatMap_nil, List.toList_toArray, Array.toList_append, Option.bind_some, Option.map_some, Option.map_none, Option.isSome_some, List.all_nil, List.all_cons, Bool.and_self, Bool.and_true, Bool.true_and, true_and, and_true, ↓reduceIte, List.size_toArray, Bool.false_eq_true, Bool.true_eq_false, false_implies, true_implies, Bool.not_true, Bool.not_false, and_self, implies_true, decide_true, decide_false, Nat.reduceAdd, Nat.reduceMul, Nat.reduceLT, Nat.reduceSub, Nat.reduceLeDiff, Nat.reduceEqDiff, eq_self, ne_eq, not_false_eq_true, false_and, and_false, reduceCtorEq, List.filter_nil, List.filter_cons, List.isEmpty_nil, List.isEmpty_cons, bne_self_eq_false, Nat.reduceBneDiff, Nat.lt_add_one, Nat.zero_lt_succ, List.append_assoc, Nat.zero_le, and_self_iff, Int.reduceToNat, List.any_nil, List.any_cons, List.filterMap_nil, List.filterMap_cons, List.contains_nil, List.contains_cons, Bool.or_false, Bool.false_or, Bool.or_true, Bool.true_or, Bool.false_and, Bool.and_false, decide_eq_true_eq, decide_eq_false_iff_not, beq_iff_eq, Int.toNat_natCast, doneD_ret, doneD_normal]
    (repeat (refine And.intro ?_ ?_; focus (((repeat' apply And.intro) <;> first | exact rowsOf_w _ | omega | (simp only [List.length_append, rowsOf_len, List.length_cons, List.length_nil, marks_len, List.length_take, List.length_drop, List.length_set]; omega) | exact ⟨_, rfl⟩ | (refine ⟨_, rfl, ?_⟩; omega) | (refine ⟨_, rfl, ?_⟩; simp only [List.length_append, rowsOf_len, List.length_cons, List.length_nil, marks_len, List.length_take, List.length_drop, List.length_set]; omega) | kernel_rfl | (simp; done)); done)))
    exact ⟨_, rfl, rfl⟩
  · cases hg
set_option maxHeartbeats 4000000 in
set_option maxRecDepth 100000 in
theorem drawNoteFrom_ok : OwnOk Try.prog 46 (ocOf g_drawNb) := by
  refine OwnOk.of_vcD (G := nd1) nd1_ok mixed Try.func46 (by kernel_rfl) rfl ?_
  intro args cnd r bs hg hc
  unfold g_drawNb at hg
  split at hg
  · rename_i sz rows
    cases hg
    obtain ⟨xs, rfl⟩ := hc
    rw [bytesOf_rows]
    have hx : (∃ ys, rowsOfBytes (List.take 2000 xs) = rowsOfBytes ys ∧ ys.length ≤ 2000) = True := eq_true ⟨_, rfl, by rw [List.length_take]; omega⟩
    obtain ⟨ys, hys⟩ : ∃ ys, ys = List.take 2000 xs := ⟨_, rfl⟩
    rw [← hys] at hx ⊢
    have hW := noV_q ys 0 0
    have hok := no_ok ys 0 (by omega)
    have hlen := nt_len hok
    have hle := noteB_of hok
    obtain ⟨B, hB⟩ : ∃ B, B = nfS ys := ⟨_, rfl⟩
    have hB' : ntV (noV ys 0 0).k (noV ys 0 0).n (noV ys 0 0).d = B := hB.symm
    rw [hB'] at hlen
    obtain ⟨q, hq⟩ : ∃ q, q = (noV ys 0 0).q := ⟨_, rfl⟩
    have hq' := hq.symm
    rw [hq'] at hW
    have k1 := pickV_nonneg ys (q + 1) B.length (by omega)
    have k2 := pickV_lt ys (q + 1) B.length (by omega)
    refine ⟨⟨rfl, by simp [AV.ids, AV.ids.idsL]⟩, [.l 1 (rowsOfBytes xs)], rfl, fun w Z s vs h => CvL.ok (.cons (.l _ _ _ (rowsOf_w xs)) .nil) h, ?_⟩
    simp (maxSteps := 3000000) only [Try.f46, nd1, g_open, g_note, g_noteBytes, g_pick, bytesOf_rows, rowsOf_len, rowsOf_take, row_toI, row_nil, row_head, rows_set, hx, ← hys, hB', hq', tY2, tY3, tY4, tY5, tY9, tY12, tY21, tY22, tY23, tY24, tY27, tY39, tY40, tY43, tY76, tY77, tY86, tY95, Try.underlying2, Try.underlying3, Try.underlying4, Try.underlying5, Try.underlying9, Try.underlying12, Try.underlying21, Try.underlying22, Try.underlying23, Try.underlying24, Try.underlying27, Try.underlying39, Try.underlying40, Try.underlying43, Try.underlying76, Try.underlying77, Try.underlying86, Try.underlying95, e_skip, e_label, e_ret, e_exit, e_seq, e_cond, e_block, e_region, seqK_normal, seqK_ret, seqK_exit, blkK_normal, blkK_ret, blkK_exit, condK_some, regK_true, regK_false, e_nil, e_cons, gateK_go, gateK_skip, gateK_ask, pickK_some, exK_some, x_pick, x_move, x_assign, x_alloc, x_box, x_build, x_buildSlice, x_load, x_store, x_binOp, x_unOp, x_convert, x_makeSlice, x_slice, x_fieldAddr, x_field, x_indexAddr, x_extract, x_nilCheck, x_call, x_len, x_append, x_min, oMin, x_copy, oCopy, eqAVs, callK_some, done_ret, done_normal, doneO_ret, doneO_normal, endsO_one, endsO_nil, endsO_more, ownAbs, frzAbs, leafs, leafs.leafsL, uniq, idxOf, bk, zipB, Blk.liveB, gate_none, gate_some, gateS_none, gateS_some, gateV_bool, gateV_undef, boolOf, evA, putT, refn, fpD, oBin, oUn, upsl, upl, up, ups, lk, dstsOf, resL, resA, packA, oLoadQ, oLoadKid, oStoreQ, oStoreTree, oBuildSliceQ, oBuildTree, oAppendQ, oAppendTree, isTr, isTrP, tkd, tkds, tkRows, ownOf, nodupB, deadL, treeOf, kidAbs, kidBlk, kidRows, TK.isCell, D.toL, oLoad, oStore, oAlloc, oBox, oBuild, oBuildSlice, oMake, oAppend, oIndexAddr, oFieldAddr, oField, oExtract, oNil, oSlice, oLen, oConvert, rowLoad, fillA, fillR, slB, dk, dks, dkRows, frz, loOf, hiOf, lenOf, rowsOf, nilV, lenV, putAt, views, viewsOk, CK.av, CK.ok, AV.cells, AV.one, Value.oneCell', Value.cells, pureAbs, nrm, nrm.nrmL, hpAt, sh, AV.ren, AV.ren.renL, Blk.ren, fpOf, footO, foot, blkIds, AV.ids, AV.ids.idsL, Op.operands, Call.operands, List.find?_cons, List.find?_nil, Nat.reduceBEq, beq_self_eq_true, List.map_cons, List.map_nil, List.getD_cons_zero, List.getD_cons_succ, List.getD_nil, List.set_cons_zero, List.set_cons_succ, List.length_cons, List.length_nil, List.replicate, List.cons_append, List.nil_append, List.append_nil, List.getElem?_cons_zero, List.getElem?_cons_succ, List.getElem?_toArray, List.getElem?_nil, List.take_zero, List.take_succ_cons, List.take_nil, List.drop_zero, List.drop_succ_cons, List.drop_nil, List.headD_cons, List.tail_cons, List.flatten_cons, List.flatten_nil, List.flatMap_cons, List.flatMap_nil, List.toList_toArray, Array.toList_append, Option.bind_some, Option.map_some, Option.map_none, Option.isSome_some, List.all_nil, List.all_cons, Bool.and_self, Bool.and_true, Bool.true_and, true_and, and_true, ↓reduceIte, List.size_toArray, Bool.false_eq_true, Bool.true_eq_false, false_implies, true_implies, Bool.not_true, Bool.not_false, and_self, implies_true, decide_true, decide_false, Nat.reduceAdd, Nat.reduceMul, Nat.reduceLT, Nat.reduceSub, Nat.reduceLeDiff, Nat.reduceEqDiff, eq_self, ne_eq, not_false_eq_true, false_and, and_false, reduceCtorEq, List.filter_nil, List.filter_cons, List.isEmpty_nil, List.isEmpty_cons, bne_self_eq_false, Nat.reduceBneDiff, Nat.lt_add_one, Nat.zero_lt_succ, List.append_assoc, Nat.zero_le, and_self_iff, Int.reduceToNat, List.any_nil, List.any_cons, List.filterMap_nil, List.filterMap_cons, List.contains_nil, List.contains_cons, Bool.or_false, Bool.false_or, Bool.or_true, Bool.true_or, Bool.false_and, Bool.and_false, decide_eq_true_eq, decide_eq_false_iff_not, beq_iff_eq, Int.toNat_natCast, doneD_ret, doneD_normal]
    (repeat (refine And.intro ?_ ?_; focus (((repeat' apply And.intro) <;> first | exact rowsOf_w _ | omega | (simp only [List.length_append, rowsOf_len, List.length_cons, List.length_nil, marks_len, List.length_take, List.length_drop, List.length_set]; omega) | exact ⟨_, rfl⟩ | (refine ⟨_, rfl, ?_⟩; omega) | (refine ⟨_, rfl, ?_⟩; simp only [List.length_append, rowsOf_len, List.length_cons, List.length_nil, marks_len, List.length_take, List.length_drop, List.length_set]; omega) | kernel_rfl | (simp; done)); done)))
    by_cases h0 : pickV ys q 4 = 0
    · rw [if_pos h0]
      (repeat (refine And.intro ?_ ?_; focus (((repeat' apply And.intro) <;> first | exact rowsOf_w _ | omega | (simp only [List.length_append, rowsOf_len, List.length_cons, List.length_nil, marks_len, List.length_take, List.length_drop, List.length_set]; omega) | exact ⟨_, rfl⟩ | (refine ⟨_, rfl, ?_⟩; omega) | (refine ⟨_, rfl, ?_⟩; simp only [List.length_append, rowsOf_len, List.length_cons, List.length_nil, marks_len, List.length_take, List.length_drop, List.length_set]; omega) | kernel_rfl | (simp; done)); done)))
      have hv : nfbV ys = B.set (pickV ys (q + 1) B.length).toNat (toU8 (pickV ys (q + 1 + 1) 30)) := by rw [nfbV, nfW, hq', if_pos h0, ← hB]
      rw [hv]
      exact ⟨_, rfl, rfl⟩
    · rw [if_neg h0]
      by_cases h1 : pickV ys q 4 = 1
      · rw [if_pos h1]
        (repeat (refine And.intro ?_ ?_; focus (((repeat' apply And.intro) <;> first | exact rowsOf_w _ | omega | (simp only [List.length_append, rowsOf_len, List.length_cons, List.length_nil, marks_len, List.length_take, List.length_drop, List.length_set]; omega) | exact ⟨_, rfl⟩ | (refine ⟨_, rfl, ?_⟩; omega) | (refine ⟨_, rfl, ?_⟩; simp only [List.length_append, rowsOf_len, List.length_cons, List.length_nil, marks_len, List.length_take, List.length_drop, List.length_set]; omega) | kernel_rfl | (simp; done)); done)))
        have hv : nfbV ys = B.take (pickV ys (q + 1) B.length).toNat := by rw [nfbV, nfW, hq', if_neg h0, if_pos h1, ← hB]
        rw [hv]
        refine ⟨_, rfl, ?_⟩
        show AV.l 1 (((rowsOfBytes B).take (pickV ys (q + 1) B.length).toNat).drop 0) = _
        rw [List.drop_zero, rowsOf_take]
      · rw [if_neg h1]
        have hv : nfbV ys = B := by rw [nfbV, nfW, hq', if_neg h0, if_neg h1, ← hB]
        rw [hv]
        exact ⟨_, rfl, rfl⟩
  · cases hg
def naW (xs : List UInt8) : PkV := ndV xs 0 12
def naO (xs : List UInt8) : Int := pickV xs (naW xs).q 5
def naK (xs : List UInt8) : Int := 3 + pickV xs ((naW xs).q + 1) 4 - pickV xs ((naW xs).q + 1 + 1) 12 / 11 * 3
def naX (xs : List UInt8) : Int := wordV xs ((naW xs).q + 1 + 1 + 1) + pickV xs (wordQ xs ((naW xs).q + 1 + 1 + 1)) 20 / 19 * 65536
def g_drawNa : PC := fun args => match args with
  | [.l _ rows] => some (∃ xs, rows = rowsOfBytes xs, .tup [.agg [.v (.int .i64 (naW ((bytesOfRows rows).take 2000)).f), .v (.int .i64 (naW ((bytesOfRows rows).take 2000)).t), .v (.int .i64 (naW ((bytesOfRows rows).take 2000)).pr), .v (.int .i64 (naW ((bytesOfRows rows).take 2000)).h), .v (.int .i64 (naW ((bytesOfRows rows).take 2000)).i), .v (.int .i64 (naW ((bytesOfRows rows).take 2000)).a), .v (.bool (naW ((bytesOfRows rows).take 2000)).m), .v (.bool (naW ((bytesOfRows rows).take 2000)).u), .l 1 (rowsOfBytes (naW ((bytesOfRows rows).take 2000)).d)], .v (.int .i64 (naO ((bytesOfRows rows).take 2000))), .v (.int .i64 (naK ((bytesOfRows rows).take 2000))), .v (.int .i64 (naX ((bytesOfRows rows).take 2000)))], [])
  | _ => none
def neO (xs : List UInt8) : Int := if 0 < pickV xs (naW xs).q 4 then (naW xs).t else pickV xs ((naW xs).q + 1) 5
def g_drawNe : PC := fun args => match args with
  | [.l _ rows] => some (∃ xs, rows = rowsOfBytes xs, .tup [.agg [.v (.int .i64 (naW ((bytesOfRows rows).take 2000)).f), .v (.int .i64 (naW ((bytesOfRows rows).take 2000)).t), .v (.int .i64 (naW ((bytesOfRows rows).take 2000)).pr), .v (.int .i64 (naW ((bytesOfRows rows).take 2000)).h), .v (.int .i64 (naW ((bytesOfRows rows).take 2000)).i), .v (.int .i64 (naW ((bytesOfRows rows).take 2000)).a), .v (.bool (naW ((bytesOfRows rows).take 2000)).m), .v (.bool (naW ((bytesOfRows rows).take 2000)).u), .l 1 (rowsOfBytes (naW ((bytesOfRows rows).take 2000)).d)], .v (.int .i64 (neO ((bytesOfRows rows).take 2000)))], [])
  | _ => none
set_option maxHeartbeats 4000000 in
set_option maxRecDepth 100000 in
theorem drawNoteAbout_ok : OwnOk Try.prog 48 (ocOf g_drawNa) := by
  refine OwnOk.of_vcD (G := nd1) nd1_ok mixed Try.func48 (by kernel_rfl) rfl ?_
  intro args cnd r bs hg hc
  unfold g_drawNa at hg
  split at hg
  · rename_i sz rows
    cases hg
    obtain ⟨xs, rfl⟩ := hc
    rw [bytesOf_rows]
    have hx : (∃ ys, rowsOfBytes (List.take 2000 xs) = rowsOfBytes ys ∧ ys.length ≤ 2000) = True := eq_true ⟨_, rfl, by rw [List.length_take]; omega⟩
    obtain ⟨ys, hys⟩ : ∃ ys, ys = List.take 2000 xs := ⟨_, rfl⟩
    rw [← hys] at hx ⊢
    obtain ⟨V, hV⟩ : ∃ V, V = naW ys := ⟨_, rfl⟩
    have hV' : ndV ys 0 12 = V := hV.symm
    have hW := ndV_q ys 0 12
    rw [hV'] at hW
    have hw := word_bd ys (V.q + 1 + 1 + 1) (by omega)
    have a1 := pickV_nonneg ys (V.q + 1) 4 (by omega)
    have a2 := pickV_lt ys (V.q + 1) 4 (by omega)
    have a3 := pickV_nonneg ys (V.q + 1 + 1) 12 (by omega)
    have a4 := pickV_lt ys (V.q + 1 + 1) 12 (by omega)
    have a5 := pickV_nonneg ys (wordQ ys (V.q + 1 + 1 + 1)) 20 (by omega)
    have a6 := pickV_lt ys (wordQ ys (V.q + 1 + 1 + 1)) 20 (by omega)
    have t1 : (pickV ys (V.q + 1 + 1) 12).tdiv 11 = pickV ys (V.q + 1 + 1) 12 / 11 := Int.tdiv_eq_ediv_of_nonneg a3
    have t2 : (pickV ys (wordQ ys (V.q + 1 + 1 + 1)) 20).tdiv 19 = pickV ys (wordQ ys (V.q + 1 + 1 + 1)) 20 / 19 := Int.tdiv_eq_ediv_of_nonneg a5
    have w0 : IntKind.i64.wrap (3 + pickV ys (V.q + 1) 4) = 3 + pickV ys (V.q + 1) 4 := wrap_id (by omega) (by omega)
    have w1 : IntKind.i64.wrap (pickV ys (V.q + 1 + 1) 12 / 11) = pickV ys (V.q + 1 + 1) 12 / 11 := wrap_id (by omega) (by omega)
    have w2 : IntKind.i64.wrap (pickV ys (V.q + 1 + 1) 12 / 11 * 3) = pickV ys (V.q + 1 + 1) 12 / 11 * 3 := wrap_id (by omega) (by omega)
    have w3 : IntKind.i64.wrap (3 + pickV ys (V.q + 1) 4 - pickV ys (V.q + 1 + 1) 12 / 11 * 3) = 3 + pickV ys (V.q + 1) 4 - pickV ys (V.q + 1 + 1) 12 / 11 * 3 := wrap_id (by omega) (by omega)
    have w4 : IntKind.i64.wrap (pickV ys (wordQ ys (V.q + 1 + 1 + 1)) 20 / 19) = pickV ys (wordQ ys (V.q + 1 + 1 + 1)) 20 / 19 := wrap_id (by omega) (by omega)
    have w5 : IntKind.i64.wrap (pickV ys (wordQ ys (V.q + 1 + 1 + 1)) 20 / 19 * 65536) = pickV ys (wordQ ys (V.q + 1 + 1 + 1)) 20 / 19 * 65536 := wrap_id (by omega) (by omega)
    have w6 : IntKind.i64.wrap (wordV ys (V.q + 1 + 1 + 1) + pickV ys (wordQ ys (V.q + 1 + 1 + 1)) 20 / 19 * 65536) = wordV ys (V.q + 1 + 1 + 1) + pickV ys (wordQ ys (V.q + 1 + 1 + 1)) 20 / 19 * 65536 := wrap_id (by omega) (by omega)
    have e1 : naO ys = pickV ys V.q 5 := by rw [naO, ← hV]
    have e2 : naK ys = 3 + pickV ys (V.q + 1) 4 - pickV ys (V.q + 1 + 1) 12 / 11 * 3 := by rw [naK, ← hV]
    have e3 : naX ys = wordV ys (V.q + 1 + 1 + 1) + pickV ys (wordQ ys (V.q + 1 + 1 + 1)) 20 / 19 * 65536 := by rw [naX, ← hV]
    rw [e1, e2, e3, ← hV]
    clear e1 e2 e3
    refine ⟨⟨rfl, by simp [AV.ids, AV.ids.idsL]⟩, [.l 1 (rowsOfBytes xs)], rfl, fun w Z s vs h => CvL.ok (.cons (.l _ _ _ (rowsOf_w xs)) .nil) h, ?_⟩
    simp (maxSteps := 3000000) only [Try.f48, nd1, g_open, g_noted, g_pick, g_word, bytesOf_rows, rowsOf_len, hx, ← hys, hV', t1, t2, w0, w1, w2, w3, w4, w5, w6, tY2, tY3, tY4, tY5, tY9, tY12, tY21, tY22, tY23, tY24, tY27, tY39, tY40, tY43, tY76, tY77, tY86, tY95, Try.underlying2, Try.underlying3, Try.underlying4, Try.underlying5, Try.underlying9, Try.underlying12, Try.underlying21, Try.underlying22, Try.underlying23, Try.underlying24, Try.underlying27, Try.underlying39, Try.underlying40, Try.underlying43, Try.underlying76, Try.underlying77, Try.underlying86, Try.underlying95, e_skip, e_label, e_ret, e_exit, e_seq, e_cond, e_block, e_region, seqK_normal, seqK_ret, seqK_exit, blkK_normal, blkK_ret, blkK_exit, condK_some, regK_true, regK_false, e_nil, e_cons, gateK_go, gateK_skip, gateK_ask, pickK_some, exK_some, x_pick, x_move, x_assign, x_alloc, x_box, x_build, x_buildSlice, x_load, x_store, x_binOp, x_unOp, x_convert, x_makeSlice, x_slice, x_fieldAddr, x_field, x_indexAddr, x_extract, x_nilCheck, x_call, x_len, x_append, x_min, oMin, x_copy, oCopy, eqAVs, callK_some, done_ret, done_normal, doneO_ret, doneO_normal, endsO_one, endsO_nil, endsO_more, ownAbs, frzAbs, leafs, leafs.leafsL, uniq, idxOf, bk, zipB, Blk.liveB, gate_none, gate_some, gateS_none, gateS_some, gateV_bool, gateV_undef, boolOf, evA, putT, refn, fpD, oBin, oUn, upsl, upl, up, ups, lk, dstsOf, resL, resA, packA, oLoadQ, oLoadKid, oStoreQ, oStoreTree, oBuildSliceQ, oBuildTree, oAppendQ, oAppendTree, isTr, isTrP, tkd, tkds, tkRows, ownOf, nodupB, deadL, treeOf, kidAbs, kidBlk, kidRows, TK.isCell, D.toL, oLoad, oStore, oAlloc, oBox, oBuild, oBuildSlice, oMake, oAppend, oIndexAddr, oFieldAddr, oField, oExtract, oNil, oSlice, oLen, oConvert, rowLoad, fillA, fillR, slB, dk, dks, dkRows, frz, loOf, hiOf, lenOf, rowsOf, nilV, lenV, putAt, views, viewsOk, CK.av, CK.ok, AV.cells, AV.one, Value.oneCell', Value.cells, pureAbs, nrm, nrm.nrmL, hpAt, sh, AV.ren, AV.ren.renL, Blk.ren, fpOf, footO, foot, blkIds, AV.ids, AV.ids.idsL, Op.operands, Call.operands, List.find?_cons, List.find?_nil, Nat.reduceBEq, beq_self_eq_true, List.map_cons, List.map_nil, List.getD_cons_zero, List.getD_cons_succ, List.getD_nil, List.set_cons_zero, List.set_cons_succ, List.length_cons, List.length_nil, List.replicate, List.cons_append, List.nil_append, List.append_nil, List.getElem?_cons_zero, List.getElem?_cons_succ, List.getElem?_toArray, List.getElem?_nil, List.take_zero, List.take_succ_cons, List.take_nil, List.drop_zero, List.drop_succ_cons, List.drop_nil, List.headD_cons, List.tail_cons, List.flatten_cons, List.flatten_nil, List.flatMap_cons, List.flatMap_nil, List.toList_toArray, Array.toList_append, Option.bind_some, Option.map_some, Option.map_none, Option.isSome_some, List.all_nil, List.all_cons, Bool.and_self, Bool.and_true, Bool.true_and, true_and, and_true, ↓reduceIte, List.size_toArray, Bool.false_eq_true, Bool.true_eq_false, false_implies, true_implies, Bool.not_true, Bool.not_false, and_self, implies_true, decide_true, decide_false, Nat.reduceAdd, Nat.reduceMul, Nat.reduceLT, Nat.reduceSub, Nat.reduceLeDiff, Nat.reduceEqDiff, eq_self, ne_eq, not_false_eq_true, false_and, and_false, reduceCtorEq, List.filter_nil, List.filter_cons, List.isEmpty_nil, List.isEmpty_cons, bne_self_eq_false, Nat.reduceBneDiff, Nat.lt_add_one, Nat.zero_lt_succ, List.append_assoc, Nat.zero_le, and_self_iff, Int.reduceToNat, List.any_nil, List.any_cons, List.filterMap_nil, List.filterMap_cons, List.contains_nil, List.contains_cons, Bool.or_false, Bool.false_or, Bool.or_true, Bool.true_or, Bool.false_and, Bool.and_false, decide_eq_true_eq, decide_eq_false_iff_not, beq_iff_eq, Int.toNat_natCast, doneD_ret, doneD_normal]
    clear t1 t2 w0 w1 w2 w3 w4 w5 w6 hV hV'
    (repeat (refine And.intro ?_ ?_; focus (((repeat' apply And.intro) <;> first | exact rowsOf_w _ | omega | (simp only [List.length_append, rowsOf_len, List.length_cons, List.length_nil, marks_len, List.length_take, List.length_drop, List.length_set]; omega) | exact ⟨_, rfl⟩ | (refine ⟨_, rfl, ?_⟩; omega) | (refine ⟨_, rfl, ?_⟩; simp only [List.length_append, rowsOf_len, List.length_cons, List.length_nil, marks_len, List.length_take, List.length_drop, List.length_set]; omega) | kernel_rfl | (simp; done)); done)))
    exact ⟨_, rfl, rfl⟩
  · cases hg
set_option maxHeartbeats 4000000 in
set_option maxRecDepth 100000 in
theorem drawNoteEchoed_ok : OwnOk Try.prog 51 (ocOf g_drawNe) := by
  refine OwnOk.of_vcD (G := nd1) nd1_ok mixed Try.func51 (by kernel_rfl) rfl ?_
  intro args cnd r bs hg hc
  unfold g_drawNe at hg
  split at hg
  · rename_i sz rows
    cases hg
    obtain ⟨xs, rfl⟩ := hc
    rw [bytesOf_rows]
    have hx : (∃ ys, rowsOfBytes (List.take 2000 xs) = rowsOfBytes ys ∧ ys.length ≤ 2000) = True := eq_true ⟨_, rfl, by rw [List.length_take]; omega⟩
    obtain ⟨ys, hys⟩ : ∃ ys, ys = List.take 2000 xs := ⟨_, rfl⟩
    rw [← hys] at hx ⊢
    obtain ⟨V, hV⟩ : ∃ V, V = naW ys := ⟨_, rfl⟩
    have hV' : ndV ys 0 12 = V := hV.symm
    have hW := ndV_q ys 0 12
    rw [hV'] at hW
    rw [neO, ← hV]
    refine ⟨⟨rfl, by simp [AV.ids, AV.ids.idsL]⟩, [.l 1 (rowsOfBytes xs)], rfl, fun w Z s vs h => CvL.ok (.cons (.l _ _ _ (rowsOf_w xs)) .nil) h, ?_⟩
    simp (maxSteps := 3000000) only [Try.f51, nd1, g_open, g_noted, g_pick, bytesOf_rows, rowsOf_len, hx, ← hys, hV', tY2, tY3, tY4, tY5, tY9, tY12, tY21, tY22, tY23, tY24, tY27, tY39, tY40, tY43, tY76, tY77, tY86, tY95, Try.underlying2, Try.underlying3, Try.underlying4, Try.underlying5, Try.underlying9, Try.underlying12, Try.underlying21, Try.underlying22, Try.underlying23, Try.underlying24, Try.underlying27, Try.underlying39, Try.underlying40, Try.underlying43, Try.underlying76, Try.underlying77, Try.underlying86, Try.underlying95, e_skip, e_label, e_ret, e_exit, e_seq, e_cond, e_block, e_region, seqK_normal, seqK_ret, seqK_exit, blkK_normal, blkK_ret, blkK_exit, condK_some, regK_true, regK_false, e_nil, e_cons, gateK_go, gateK_skip, gateK_ask, pickK_some, exK_some, x_pick, x_move, x_assign, x_alloc, x_box, x_build, x_buildSlice, x_load, x_store, x_binOp, x_unOp, x_convert, x_makeSlice, x_slice, x_fieldAddr, x_field, x_indexAddr, x_extract, x_nilCheck, x_call, x_len, x_append, x_min, oMin, x_copy, oCopy, eqAVs, callK_some, done_ret, done_normal, doneO_ret, doneO_normal, endsO_one, endsO_nil, endsO_more, ownAbs, frzAbs, leafs, leafs.leafsL, uniq, idxOf, bk, zipB, Blk.liveB, gate_none, gate_some, gateS_none, gateS_some, gateV_bool, gateV_undef, boolOf, evA, putT, refn, fpD, oBin, oUn, upsl, upl, up, ups, lk, dstsOf, resL, resA, packA, oLoadQ, oLoadKid, oStoreQ, oStoreTree, oBuildSliceQ, oBuildTree, oAppendQ, oAppendTree, isTr, isTrP, tkd, tkds, tkRows, ownOf, nodupB, deadL, treeOf, kidAbs, kidBlk, kidRows, TK.isCell, D.toL, oLoad, oStore, oAlloc, oBox, oBuild, oBuildSlice, oMake, oAppend, oIndexAddr, oFieldAddr, oField, oExtract, oNil, oSlice, oLen, oConvert, rowLoad, fillA, fillR, slB, dk, dks, dkRows, frz, loOf, hiOf, lenOf, rowsOf, nilV, lenV, putAt, views, viewsOk, CK.av, CK.ok, AV.cells, AV.one, Value.oneCell', Value.cells, pureAbs, nrm, nrm.nrmL, hpAt, sh, AV.ren, AV.ren.renL, Blk.ren, fpOf, footO, foot, blkIds, AV.ids, AV.ids.idsL, Op.operands, Call.operands, List.find?_cons, List.find?_nil, Nat.reduceBEq, beq_self_eq_true, List.map_cons, List.map_nil, List.getD_cons_zero, List.getD_cons_succ, List.getD_nil, List.set_cons_zero, List.set_cons_succ, List.length_cons, List.length_nil, List.replicate, List.cons_append, List.nil_append, List.append_nil, List.getElem?_cons_zero, List.getElem?_cons_succ, List.getElem?_toArray, List.getElem?_nil, List.take_zero, List.take_succ_cons, List.take_nil, List.drop_zero, List.drop_succ_cons, List.drop_nil, List.headD_cons, List.tail_cons, List.flatten_cons, List.flatten_nil, List.flatMap_cons, List.flatMap_nil, List.toList_toArray, Array.toList_append, Option.bind_some, Option.map_some, Option.map_none, Option.isSome_some, List.all_nil, List.all_cons, Bool.and_self, Bool.and_true, Bool.true_and, true_and, and_true, ↓reduceIte, List.size_toArray, Bool.false_eq_true, Bool.true_eq_false, false_implies, true_implies, Bool.not_true, Bool.not_false, and_self, implies_true, decide_true, decide_false, Nat.reduceAdd, Nat.reduceMul, Nat.reduceLT, Nat.reduceSub, Nat.reduceLeDiff, Nat.reduceEqDiff, eq_self, ne_eq, not_false_eq_true, false_and, and_false, reduceCtorEq, List.filter_nil, List.filter_cons, List.isEmpty_nil, List.isEmpty_cons, bne_self_eq_false, Nat.reduceBneDiff, Nat.lt_add_one, Nat.zero_lt_succ, List.append_assoc, Nat.zero_le, and_self_iff, Int.reduceToNat, List.any_nil, List.any_cons, List.filterMap_nil, List.filterMap_cons, List.contains_nil, List.contains_cons, Bool.or_false, Bool.false_or, Bool.or_true, Bool.true_or, Bool.false_and, Bool.and_false, decide_eq_true_eq, decide_eq_false_iff_not, beq_iff_eq, Int.toNat_natCast, doneD_ret, doneD_normal]
    clear hV hV'
    (repeat (refine And.intro ?_ ?_; focus (((repeat' apply And.intro) <;> first | exact rowsOf_w _ | omega | (simp only [List.length_append, rowsOf_len, List.length_cons, List.length_nil, marks_len, List.length_take, List.length_drop, List.length_set]; omega) | exact ⟨_, rfl⟩ | (refine ⟨_, rfl, ?_⟩; omega) | (refine ⟨_, rfl, ?_⟩; simp only [List.length_append, rowsOf_len, List.length_cons, List.length_nil, marks_len, List.length_take, List.length_drop, List.length_set]; omega) | kernel_rfl | (simp; done)); done)))
    by_cases h0 : 0 < pickV ys V.q 4
    · rw [if_pos h0, if_pos h0]
      (repeat (refine And.intro ?_ ?_; focus (((repeat' apply And.intro) <;> first | exact rowsOf_w _ | omega | (simp only [List.length_append, rowsOf_len, List.length_cons, List.length_nil, marks_len, List.length_take, List.length_drop, List.length_set]; omega) | exact ⟨_, rfl⟩ | (refine ⟨_, rfl, ?_⟩; omega) | (refine ⟨_, rfl, ?_⟩; simp only [List.length_append, rowsOf_len, List.length_cons, List.length_nil, marks_len, List.length_take, List.length_drop, List.length_set]; omega) | kernel_rfl | (simp; done)); done)))
      exact ⟨_, rfl, rfl⟩
    · rw [if_neg h0, if_neg h0]
      (repeat (refine And.intro ?_ ?_; focus (((repeat' apply And.intro) <;> first | exact rowsOf_w _ | omega | (simp only [List.length_append, rowsOf_len, List.length_cons, List.length_nil, marks_len, List.length_take, List.length_drop, List.length_set]; omega) | exact ⟨_, rfl⟩ | (refine ⟨_, rfl, ?_⟩; omega) | (refine ⟨_, rfl, ?_⟩; simp only [List.length_append, rowsOf_len, List.length_cons, List.length_nil, marks_len, List.length_take, List.length_drop, List.length_set]; omega) | kernel_rfl | (simp; done)); done)))
      exact ⟨_, rfl, rfl⟩
  · cases hg
end Go.Proofs.Ytoiieccdbldfiaa
