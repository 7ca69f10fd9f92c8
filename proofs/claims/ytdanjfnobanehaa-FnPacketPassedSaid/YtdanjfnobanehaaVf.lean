import Derived.Test.YtdanjfnobanehaaVc
import Derived.Test.YtdanjfnobanehaaR6
set_option linter.unusedVariables false
set_option linter.unusedSimpArgs false
namespace Go.Proofs.Ytdanjfnobanehaa
open Go.RowKit
set_option linter.unusedSimpArgs false

/-! a packet is drawn -/
structure PkV where
  f : Int
  t : Int
  pr : Int
  h : Int
  i : Int
  a : Int
  m : Bool
  u : Bool
  d : List UInt8
  q : Int
def pkN (xs : List UInt8) (p : Int) : Nat := (pickV xs (p + 1 + 1 + 1 + 1 + 1) 12).toNat
def pkQ (xs : List UInt8) (p : Int) : Int := p + 1 + 1 + 1 + 1 + 1 + 1 + 2 * (pkN xs p : Int)
def pkS (xs : List UInt8) (p : Int) (a : Int) (m u : Bool) (q : Int) : PkV := ⟨pickV xs p 5, pickV xs (p + 1) 5, pickV xs (p + 1 + 1) 4, pickV xs (p + 1 + 1 + 1) 6, pickV xs (p + 1 + 1 + 1 + 1) 4, a, m, u, bytesV xs (p + 1 + 1 + 1 + 1 + 1 + 1) (pkN xs p), q⟩
def pkBase (xs : List UInt8) (p : Int) : PkV :=
  if pickV xs (pkQ xs p) 4 = 0 then pkS xs p 0 false true (pkQ xs p + 1)
  else if pickV xs (pkQ xs p) 4 = 1 then
    if 0 < pkN xs p then pkS xs p (pickV xs (pkQ xs p + 1) 20) (pickV xs (pkQ xs p + 1 + 1) 2 == 0) false (pkQ xs p + 1 + 1 + 1)
    else pkS xs p (pickV xs (pkQ xs p + 1) 20) false false (pkQ xs p + 1 + 1)
  else pkS xs p 0 false false (pkQ xs p + 1)
def pktE (xs : List UInt8) (b : PkV) (x : Int) : PkV :=
  if pickV xs x 5 = 0 then { b with t := IntKind.i64.wrap (65536 - IntKind.i64.wrap (pickV xs (x + 1) 2 * 65540)), q := x + 1 + 1 }
  else if pickV xs x 5 = 1 then { b with h := IntKind.i64.wrap (256 - IntKind.i64.wrap (pickV xs (x + 1) 2 * 300)), q := x + 1 + 1 }
  else if pickV xs x 5 = 2 then { b with d := List.replicate 49 0, q := x + 1 }
  else if pickV xs x 5 = 3 then { b with m := true, d := [], q := x + 1 }
  else { b with u := true, a := 3, q := x + 1 }
def pktO (xs : List UInt8) (b : PkV) (n : Int) : PkV :=
  if (decide (0 < n) && pickV xs b.q n == n - 1) = true then pktE xs b (b.q + oneIf n) else { b with q := b.q + oneIf n }
def pktV (xs : List UInt8) (p n : Int) : PkV := pktO xs (pkBase xs p) n
theorem pkN_le (xs : List UInt8) (p : Int) : pkN xs p ≤ 11 := by
  have := pickV_lt xs (p + 1 + 1 + 1 + 1 + 1) 12 (by omega)
  unfold pkN; omega
theorem pkBase_q (xs : List UInt8) (p : Int) : p ≤ (pkBase xs p).q ∧ (pkBase xs p).q < p + 40 ∧ (pkBase xs p).d.length ≤ 11 := by
  have h := pkN_le xs p
  have hq : pkQ xs p = p + 1 + 1 + 1 + 1 + 1 + 1 + 2 * (pkN xs p : Int) := rfl
  unfold pkBase pkS
  split
  · dsimp only; rw [bytesV_len]; omega
  · split
    · split <;> (dsimp only; rw [bytesV_len]; omega)
    · dsimp only; rw [bytesV_len]; omega
theorem pktV_q (xs : List UInt8) (p n : Int) : p ≤ (pktV xs p n).q ∧ (pktV xs p n).q < p + 50 ∧ (pktV xs p n).d.length ≤ 49 := by
  have h := pkBase_q xs p
  have := oneIf_le n
  unfold pktV pktO
  split
  · unfold pktE
    repeat' split
    all_goals (dsimp only; first | omega | (rw [List.length_replicate]; omega) | (rw [List.length_nil]; omega))
  · dsimp only; omega
theorem pktV_n {xs : List UInt8} {p n : Int} {b : PkV} (hB : pkBase xs p = b) (ho : ¬ (decide (0 < n) && pickV xs b.q n == n - 1) = true) : pktV xs p n = { b with q := b.q + oneIf n } := by
  rw [pktV, hB, pktO, if_neg ho]
theorem pktV_0 {xs : List UInt8} {p n : Int} {b : PkV} (hB : pkBase xs p = b) (ho : (decide (0 < n) && pickV xs b.q n == n - 1) = true) (h0 : pickV xs (b.q + oneIf n) 5 = 0) : pktV xs p n = { b with t := IntKind.i64.wrap (65536 - IntKind.i64.wrap (pickV xs (b.q + oneIf n + 1) 2 * 65540)), q := b.q + oneIf n + 1 + 1 } := by
  rw [pktV, hB, pktO, if_pos ho, pktE, if_pos h0]
theorem pktV_1 {xs : List UInt8} {p n : Int} {b : PkV} (hB : pkBase xs p = b) (ho : (decide (0 < n) && pickV xs b.q n == n - 1) = true) (h0 : ¬ pickV xs (b.q + oneIf n) 5 = 0) (h1 : pickV xs (b.q + oneIf n) 5 = 1) : pktV xs p n = { b with h := IntKind.i64.wrap (256 - IntKind.i64.wrap (pickV xs (b.q + oneIf n + 1) 2 * 300)), q := b.q + oneIf n + 1 + 1 } := by
  rw [pktV, hB, pktO, if_pos ho, pktE, if_neg h0, if_pos h1]
theorem pktV_2 {xs : List UInt8} {p n : Int} {b : PkV} (hB : pkBase xs p = b) (ho : (decide (0 < n) && pickV xs b.q n == n - 1) = true) (h0 : ¬ pickV xs (b.q + oneIf n) 5 = 0) (h1 : ¬ pickV xs (b.q + oneIf n) 5 = 1) (h2 : pickV xs (b.q + oneIf n) 5 = 2) : pktV xs p n = { b with d := List.replicate 49 0, q := b.q + oneIf n + 1 } := by
  rw [pktV, hB, pktO, if_pos ho, pktE, if_neg h0, if_neg h1, if_pos h2]
theorem pktV_3 {xs : List UInt8} {p n : Int} {b : PkV} (hB : pkBase xs p = b) (ho : (decide (0 < n) && pickV xs b.q n == n - 1) = true) (h0 : ¬ pickV xs (b.q + oneIf n) 5 = 0) (h1 : ¬ pickV xs (b.q + oneIf n) 5 = 1) (h2 : ¬ pickV xs (b.q + oneIf n) 5 = 2) (h3 : pickV xs (b.q + oneIf n) 5 = 3) : pktV xs p n = { b with m := true, d := [], q := b.q + oneIf n + 1 } := by
  rw [pktV, hB, pktO, if_pos ho, pktE, if_neg h0, if_neg h1, if_neg h2, if_pos h3]
theorem pktV_4 {xs : List UInt8} {p n : Int} {b : PkV} (hB : pkBase xs p = b) (ho : (decide (0 < n) && pickV xs b.q n == n - 1) = true) (h0 : ¬ pickV xs (b.q + oneIf n) 5 = 0) (h1 : ¬ pickV xs (b.q + oneIf n) 5 = 1) (h2 : ¬ pickV xs (b.q + oneIf n) 5 = 2) (h3 : ¬ pickV xs (b.q + oneIf n) 5 = 3) : pktV xs p n = { b with u := true, a := 3, q := b.q + oneIf n + 1 } := by
  rw [pktV, hB, pktO, if_pos ho, pktE, if_neg h0, if_neg h1, if_neg h2, if_neg h3]
def g_packet : OC := fun args B0 => match args, B0 with
  | [.ptr r o, .v (.int .i64 n)], [.var T [.l 1 rows, .v (.int .i64 p)]] => some (T = 113 ∧ r = 0 ∧ o = 0 ∧ (∃ xs, rows = rowsOfBytes xs ∧ xs.length ≤ 2000) ∧ 0 ≤ p ∧ p < 100000000000 ∧ 0 ≤ n ∧ n ≤ 1000000,
      .agg [.v (.int .i64 (pktV (bytesOfRows rows) p n).f), .v (.int .i64 (pktV (bytesOfRows rows) p n).t), .v (.int .i64 (pktV (bytesOfRows rows) p n).pr), .v (.int .i64 (pktV (bytesOfRows rows) p n).h), .v (.int .i64 (pktV (bytesOfRows rows) p n).i), .v (.int .i64 (pktV (bytesOfRows rows) p n).a), .v (.bool (pktV (bytesOfRows rows) p n).m), .v (.bool (pktV (bytesOfRows rows) p n).u), .l 1 (rowsOfBytes (pktV (bytesOfRows rows) p n).d)], [.var T [.l 1 rows, .v (.int .i64 (pktV (bytesOfRows rows) p n).q)]], [])
  | _, _ => none
set_option maxHeartbeats 0 in
set_option maxRecDepth 100000 in
theorem packet_ok : OwnOk Try.prog 83 g_packet := by
  refine OwnOk.of_vcL (G := reads) reads_ok mixed Try.func83 (by kernel_rfl) rfl ?_
  intro args B0 cnd r B1 bs hg hc hlive
  unfold g_packet at hg
  split at hg
  · rename_i r o n T rows p
    cases hg
    obtain ⟨rfl, rfl, rfl, ⟨xs, rfl, hl⟩, hp0, hp1, hn0, hn1⟩ := hc
    rw [bytesOf_rows]
    refine ⟨⟨by simp [likeBs, likeB], rfl, fun b hb => by simp at hb; subst hb; exact ⟨_, _, rfl, rfl⟩, by simp [AV.ids, AV.ids.idsL]⟩, _, rfl, fun w Z s vs h => h, ?_⟩
    clear hlive
    have hx : (∃ ys, rowsOfBytes xs = rowsOfBytes ys ∧ ys.length ≤ 2000) = True := eq_true ⟨xs, rfl, hl⟩
    have k9 := pickV_nonneg xs (p + 1 + 1 + 1 + 1 + 1) 12 (by omega)
    have k9' := pickV_lt xs (p + 1 + 1 + 1 + 1 + 1) 12 (by omega)
    obtain ⟨q, hq⟩ : ∃ q, q = pkQ xs p := ⟨_, rfl⟩
    obtain ⟨N, hN⟩ : ∃ N, N = pkN xs p := ⟨_, rfl⟩
    obtain ⟨e, he⟩ : ∃ e, e = oneIf n := ⟨_, rfl⟩
    have be := oneIf_le n
    rw [← he] at be
    have hN' : (pickV xs (p + 1 + 1 + 1 + 1 + 1) 12).toNat = N := hN.symm
    have hq' : p + 1 + 1 + 1 + 1 + 1 + 1 + 2 * (N : Int) = q := by rw [hN, hq]; rfl
    have he' : (if 0 < n then (1 : Int) else 0) = e := he.symm
    have bq : p ≤ q ∧ q < p + 30 := by rw [← hq']; omega
    have bN : N ≤ 11 := by omega
    simp (maxSteps := 3000000) only [Try.f83, reads, g_pick, g_odd, g_bytes, bytesOf_rows, rowsOf_len, bytesV_len, ty_sz2, ty_st2, ty_cell2, ty_ck2, ty_inf2, ty_sz3, ty_st3, ty_cell3, ty_ck3, ty_inf3, ty_sz4, ty_st4, ty_cell4, ty_ck4, ty_inf4, ty_sz5, ty_st5, ty_cell5, ty_ck5, ty_inf5, ty_sz9, ty_st9, ty_cell9, ty_ck9, ty_inf9, ty_sz12, ty_st12, ty_cell12, ty_ck12, ty_inf12, ty_sz21, ty_st21, ty_cell21, ty_ck21, ty_inf21, ty_sz22, ty_st22, ty_cell22, ty_ck22, ty_inf22, ty_sz23, ty_st23, ty_cell23, ty_ck23, ty_inf23, ty_sz24, ty_st24, ty_cell24, ty_ck24, ty_inf24, ty_sz25, ty_st25, ty_cell25, ty_ck25, ty_inf25, ty_eq25, ty_f25_0, ty_f25_1, ty_sz26, ty_st26, ty_cell26, ty_ck26, ty_inf26, ty_eq26, ty_f26_0, ty_f26_1, ty_sz35, ty_st35, ty_cell35, ty_ck35, ty_inf35, ty_eq35, ty_f35_0, ty_f35_1, ty_sz36, ty_st36, ty_cell36, ty_ck36, ty_inf36, ty_eq36, ty_f36_0, ty_f36_1, ty_sz39, ty_st39, ty_cell39, ty_ck39, ty_inf39, ty_eq39, ty_f39_0, ty_f39_1, ty_f39_2, ty_f39_3, ty_sz40, ty_st40, ty_cell40, ty_ck40, ty_inf40, ty_eq40, ty_f40_0, ty_f40_1, ty_f40_2, ty_f40_3, ty_sz43, ty_st43, ty_cell43, ty_ck43, ty_inf43, ty_sz49, ty_st49, ty_cell49, ty_ck49, ty_inf49, ty_eq49, ty_f49_0, ty_f49_1, ty_f49_2, ty_f49_3, ty_f49_4, ty_f49_5, ty_f49_6, ty_f49_7, ty_f49_8, ty_sz50, ty_st50, ty_cell50, ty_ck50, ty_inf50, ty_eq50, ty_f50_0, ty_f50_1, ty_f50_2, ty_f50_3, ty_f50_4, ty_f50_5, ty_f50_6, ty_f50_7, ty_f50_8, ty_sz60, ty_st60, ty_cell60, ty_ck60, ty_inf60, ty_sz61, ty_st61, ty_cell61, ty_ck61, ty_inf61, ty_sz62, ty_st62, ty_cell62, ty_ck62, ty_inf62, ty_eq62, ty_f62_0, ty_f62_1, ty_sz63, ty_st63, ty_cell63, ty_ck63, ty_inf63, ty_eq63, ty_f63_0, ty_f63_1, ty_sz69, ty_st69, ty_cell69, ty_ck69, ty_inf69, ty_eq69, ty_f69_0, ty_f69_1, ty_f69_2, ty_f69_3, ty_sz73, ty_st73, ty_cell73, ty_ck73, ty_inf73, ty_eq73, ty_f73_0, ty_f73_1, ty_f73_2, ty_f73_3, ty_f73_4, ty_f73_5, ty_f73_6, ty_f73_7, ty_f73_8, ty_sz88, ty_st88, ty_cell88, ty_ck88, ty_inf88, ty_eq88, ty_f88_0, ty_f88_1, ty_f88_2, ty_sz89, ty_st89, ty_cell89, ty_ck89, ty_inf89, ty_eq89, ty_f89_0, ty_f89_1, ty_f89_2, ty_sz112, ty_st112, ty_cell112, ty_ck112, ty_inf112, ty_eq112, ty_f112_0, ty_f112_1, ty_sz113, ty_st113, ty_cell113, ty_ck113, ty_inf113, ty_eq113, ty_f113_0, ty_f113_1, ty_sz119, ty_st119, ty_cell119, ty_ck119, ty_inf119, ty_eq119, ty_f119_0, ty_f119_1, ty_sz121, ty_st121, ty_cell121, ty_ck121, ty_inf121, ty_eq121, ty_f121_0, ty_f121_1, ty_f121_2, ty_sz132, ty_st132, ty_cell132, ty_ck132, ty_inf132, ty_sz141, ty_st141, ty_cell141, ty_ck141, ty_inf141, Try.underlying2, Try.underlying3, Try.underlying4, Try.underlying5, Try.underlying9, Try.underlying12, Try.underlying21, Try.underlying22, Try.underlying23, Try.underlying24, Try.underlying25, Try.underlying26, Try.underlying35, Try.underlying36, Try.underlying39, Try.underlying40, Try.underlying43, Try.underlying49, Try.underlying50, Try.underlying60, Try.underlying61, Try.underlying62, Try.underlying63, Try.underlying69, Try.underlying73, Try.underlying88, Try.underlying89, Try.underlying112, Try.underlying113, Try.underlying119, Try.underlying121, Try.underlying132, Try.underlying141, e_skip, e_label, e_ret, e_exit, e_seq, e_cond, e_block, e_region, seqK_normal, seqK_ret, seqK_exit, blkK_normal, blkK_ret, blkK_exit, condK_some, regK_true, regK_false, e_nil, e_cons, gateK_go, gateK_skip, gateK_ask, pickK_some, exK_some, x_pick, x_move, x_assign, x_alloc, x_box, x_build, x_buildSlice, x_load, x_store, x_binOp, x_unOp, x_convert, x_makeSlice, x_slice, x_fieldAddr, x_field, x_indexAddr, x_extract, x_nilCheck, x_call, x_len, x_append, x_min, oMin, x_copy, oCopy, eqAVs, callK_some, done_ret, done_normal, doneO_ret, doneO_normal, endsO_one, endsO_nil, endsO_more, ownAbs, frzAbs, leafs, leafs.leafsL, uniq, idxOf, bk, zipB, Blk.liveB, gate_none, gate_some, gateS_none, gateS_some, gateV_bool, gateV_undef, boolOf, evA, putT, refn, fpD, oBin, oUn, upsl, upl, up, ups, lk, dstsOf, resL, resA, packA, oLoad, oStore, oAlloc, oBox, oBuild, oBuildSlice, oMake, oAppend, oIndexAddr, oFieldAddr, oField, oExtract, oNil, oSlice, oLen, oConvert, rowLoad, fillA, fillR, dk, dks, dkRows, frz, loOf, hiOf, lenOf, rowsOf, nilV, lenV, putAt, views, viewsOk, CK.av, CK.ok, AV.cells, AV.one, Value.oneCell', Value.cells, pureAbs, nrm, nrm.nrmL, hpAt, sh, AV.ren, AV.ren.renL, Blk.ren, fpOf, footO, foot, blkIds, AV.ids, AV.ids.idsL, Op.operands, Call.operands, List.find?_cons, List.find?_nil, Nat.reduceBEq, beq_self_eq_true, List.map_cons, List.map_nil, List.getD_cons_zero, List.getD_cons_succ, List.getD_nil, List.set_cons_zero, List.set_cons_succ, List.length_cons, List.length_nil, List.replicate, List.cons_append, List.nil_append, List.append_nil, List.getElem?_cons_zero, List.getElem?_cons_succ, List.getElem?_toArray, List.getElem?_nil, List.take_zero, List.take_succ_cons, List.take_nil, List.drop_zero, List.drop_succ_cons, List.drop_nil, List.headD_cons, List.tail_cons, List.flatten_cons, List.flatten_nil, List.flatMap_cons, List.flatMap_nil, List.toList_toArray, Array.toList_append, Option.bind_some, Option.map_some, Option.map_none, Option.isSome_some, List.all_nil, List.all_cons, Bool.and_self, Bool.and_true, Bool.true_and, true_and, and_true, ↓reduceIte, List.size_toArray, Bool.false_eq_true, Bool.true_eq_false, false_implies, true_implies, Bool.not_true, Bool.not_false, and_self, implies_true, decide_true, decide_false, Nat.reduceAdd, Nat.reduceMul, Nat.reduceLT, Nat.reduceSub, Nat.reduceLeDiff, Nat.reduceEqDiff, eq_self, ne_eq, not_false_eq_true, false_and, and_false, reduceCtorEq, List.filter_nil, List.filter_cons, List.isEmpty_nil, List.isEmpty_cons, bne_self_eq_false, Nat.reduceBneDiff, Nat.lt_add_one, Nat.zero_lt_succ, List.append_assoc, Nat.zero_le, and_self_iff, Int.reduceToNat, decide_eq_true_eq, decide_eq_false_iff_not, beq_iff_eq, Int.toNat_natCast, doneL_ret, doneL_normal, hx, hN', hq', he']
    (repeat (refine And.intro ?_ ?_; focus (((repeat' apply And.intro) <;> first | exact rowsOf_w _ | omega | (simp only [List.length_append, rowsOf_len, List.length_cons, List.length_nil, marks_len, List.length_take, List.length_drop, List.length_set]; omega) | exact ⟨_, rfl⟩ | (refine ⟨_, rfl, ?_⟩; omega) | (refine ⟨_, rfl, ?_⟩; simp only [List.length_append, rowsOf_len, List.length_cons, List.length_nil, marks_len, List.length_take, List.length_drop, List.length_set]; omega) | kernel_rfl | (simp; done)); done)))
    clear hq' he' hN' k9 k9'
    subst hN
    by_cases h4 : pickV xs q 4 = 0
    · rw [if_pos h4]
      (repeat (refine And.intro ?_ ?_; focus (((repeat' apply And.intro) <;> first | exact rowsOf_w _ | omega | (simp only [List.length_append, rowsOf_len, List.length_cons, List.length_nil, marks_len, List.length_take, List.length_drop, List.length_set]; omega) | exact ⟨_, rfl⟩ | (refine ⟨_, rfl, ?_⟩; omega) | (refine ⟨_, rfl, ?_⟩; simp only [List.length_append, rowsOf_len, List.length_cons, List.length_nil, marks_len, List.length_take, List.length_drop, List.length_set]; omega) | kernel_rfl | (simp; done)); done)))
      have hB : pkBase xs p = pkS xs p 0 false true (q + 1) := by rw [pkBase, ← hq, if_pos h4]
      by_cases ho : (decide (0 < n) && pickV xs (q + 1) n == n - 1) = true
      · rw [if_pos ho]
        (repeat (refine And.intro ?_ ?_; focus (((repeat' apply And.intro) <;> first | exact rowsOf_w _ | omega | (simp only [List.length_append, rowsOf_len, List.length_cons, List.length_nil, marks_len, List.length_take, List.length_drop, List.length_set]; omega) | exact ⟨_, rfl⟩ | (refine ⟨_, rfl, ?_⟩; omega) | (refine ⟨_, rfl, ?_⟩; simp only [List.length_append, rowsOf_len, List.length_cons, List.length_nil, marks_len, List.length_take, List.length_drop, List.length_set]; omega) | kernel_rfl | (simp; done)); done)))
        by_cases h0 : pickV xs (q + 1 + e) 5 = 0
        · rw [if_pos h0]
          (repeat (refine And.intro ?_ ?_; focus (((repeat' apply And.intro) <;> first | exact rowsOf_w _ | omega | (simp only [List.length_append, rowsOf_len, List.length_cons, List.length_nil, marks_len, List.length_take, List.length_drop, List.length_set]; omega) | exact ⟨_, rfl⟩ | (refine ⟨_, rfl, ?_⟩; omega) | (refine ⟨_, rfl, ?_⟩; simp only [List.length_append, rowsOf_len, List.length_cons, List.length_nil, marks_len, List.length_take, List.length_drop, List.length_set]; omega) | kernel_rfl | (simp; done)); done)))
          subst he
          rw [pktV_0 hB ho h0]
          exact ⟨_, rfl, rfl, rfl⟩
        · rw [if_neg h0]
          by_cases h1 : pickV xs (q + 1 + e) 5 = 1
          · rw [if_pos h1]
            (repeat (refine And.intro ?_ ?_; focus (((repeat' apply And.intro) <;> first | exact rowsOf_w _ | omega | (simp only [List.length_append, rowsOf_len, List.length_cons, List.length_nil, marks_len, List.length_take, List.length_drop, List.length_set]; omega) | exact ⟨_, rfl⟩ | (refine ⟨_, rfl, ?_⟩; omega) | (refine ⟨_, rfl, ?_⟩; simp only [List.length_append, rowsOf_len, List.length_cons, List.length_nil, marks_len, List.length_take, List.length_drop, List.length_set]; omega) | kernel_rfl | (simp; done)); done)))
            subst he
            rw [pktV_1 hB ho h0 h1]
            exact ⟨_, rfl, rfl, rfl⟩
          · rw [if_neg h1]
            by_cases h2 : pickV xs (q + 1 + e) 5 = 2
            · rw [if_pos h2]
              (repeat (refine And.intro ?_ ?_; focus (((repeat' apply And.intro) <;> first | exact rowsOf_w _ | omega | (simp only [List.length_append, rowsOf_len, List.length_cons, List.length_nil, marks_len, List.length_take, List.length_drop, List.length_set]; omega) | exact ⟨_, rfl⟩ | (refine ⟨_, rfl, ?_⟩; omega) | (refine ⟨_, rfl, ?_⟩; simp only [List.length_append, rowsOf_len, List.length_cons, List.length_nil, marks_len, List.length_take, List.length_drop, List.length_set]; omega) | kernel_rfl | (simp; done)); done)))
              subst he
              rw [pktV_2 hB ho h0 h1 h2]
              exact ⟨_, rfl, rfl, rfl⟩
            · rw [if_neg h2]
              by_cases h3 : pickV xs (q + 1 + e) 5 = 3
              · rw [if_pos h3]
                (repeat (refine And.intro ?_ ?_; focus (((repeat' apply And.intro) <;> first | exact rowsOf_w _ | omega | (simp only [List.length_append, rowsOf_len, List.length_cons, List.length_nil, marks_len, List.length_take, List.length_drop, List.length_set]; omega) | exact ⟨_, rfl⟩ | (refine ⟨_, rfl, ?_⟩; omega) | (refine ⟨_, rfl, ?_⟩; simp only [List.length_append, rowsOf_len, List.length_cons, List.length_nil, marks_len, List.length_take, List.length_drop, List.length_set]; omega) | kernel_rfl | (simp; done)); done)))
                subst he
                rw [pktV_3 hB ho h0 h1 h2 h3]
                exact ⟨_, rfl, rfl, rfl⟩
              · rw [if_neg h3]
                (repeat (refine And.intro ?_ ?_; focus (((repeat' apply And.intro) <;> first | exact rowsOf_w _ | omega | (simp only [List.length_append, rowsOf_len, List.length_cons, List.length_nil, marks_len, List.length_take, List.length_drop, List.length_set]; omega) | exact ⟨_, rfl⟩ | (refine ⟨_, rfl, ?_⟩; omega) | (refine ⟨_, rfl, ?_⟩; simp only [List.length_append, rowsOf_len, List.length_cons, List.length_nil, marks_len, List.length_take, List.length_drop, List.length_set]; omega) | kernel_rfl | (simp; done)); done)))
                subst he
                rw [pktV_4 hB ho h0 h1 h2 h3]
                exact ⟨_, rfl, rfl, rfl⟩
      · rw [if_neg ho]
        (repeat (refine And.intro ?_ ?_; focus (((repeat' apply And.intro) <;> first | exact rowsOf_w _ | omega | (simp only [List.length_append, rowsOf_len, List.length_cons, List.length_nil, marks_len, List.length_take, List.length_drop, List.length_set]; omega) | exact ⟨_, rfl⟩ | (refine ⟨_, rfl, ?_⟩; omega) | (refine ⟨_, rfl, ?_⟩; simp only [List.length_append, rowsOf_len, List.length_cons, List.length_nil, marks_len, List.length_take, List.length_drop, List.length_set]; omega) | kernel_rfl | (simp; done)); done)))
        subst he
        rw [pktV_n hB ho]
        exact ⟨_, rfl, rfl, rfl⟩
    · rw [if_neg h4]
      by_cases h41 : pickV xs q 4 = 1
      · rw [if_pos h41]
        (repeat (refine And.intro ?_ ?_; focus (((repeat' apply And.intro) <;> first | exact rowsOf_w _ | omega | (simp only [List.length_append, rowsOf_len, List.length_cons, List.length_nil, marks_len, List.length_take, List.length_drop, List.length_set]; omega) | exact ⟨_, rfl⟩ | (refine ⟨_, rfl, ?_⟩; omega) | (refine ⟨_, rfl, ?_⟩; simp only [List.length_append, rowsOf_len, List.length_cons, List.length_nil, marks_len, List.length_take, List.length_drop, List.length_set]; omega) | kernel_rfl | (simp; done)); done)))
        by_cases hN0 : (pkN xs p : Int) > 0
        · rw [if_pos hN0]
          (repeat (refine And.intro ?_ ?_; focus (((repeat' apply And.intro) <;> first | exact rowsOf_w _ | omega | (simp only [List.length_append, rowsOf_len, List.length_cons, List.length_nil, marks_len, List.length_take, List.length_drop, List.length_set]; omega) | exact ⟨_, rfl⟩ | (refine ⟨_, rfl, ?_⟩; omega) | (refine ⟨_, rfl, ?_⟩; simp only [List.length_append, rowsOf_len, List.length_cons, List.length_nil, marks_len, List.length_take, List.length_drop, List.length_set]; omega) | kernel_rfl | (simp; done)); done)))
          have hB : pkBase xs p = pkS xs p (pickV xs (q + 1) 20) (pickV xs (q + 1 + 1) 2 == 0) false (q + 1 + 1 + 1) := by rw [pkBase, ← hq, if_neg h4, if_pos h41, if_pos (by omega)]
          by_cases ho : (decide (0 < n) && pickV xs (q + 1 + 1 + 1) n == n - 1) = true
          · rw [if_pos ho]
            (repeat (refine And.intro ?_ ?_; focus (((repeat' apply And.intro) <;> first | exact rowsOf_w _ | omega | (simp only [List.length_append, rowsOf_len, List.length_cons, List.length_nil, marks_len, List.length_take, List.length_drop, List.length_set]; omega) | exact ⟨_, rfl⟩ | (refine ⟨_, rfl, ?_⟩; omega) | (refine ⟨_, rfl, ?_⟩; simp only [List.length_append, rowsOf_len, List.length_cons, List.length_nil, marks_len, List.length_take, List.length_drop, List.length_set]; omega) | kernel_rfl | (simp; done)); done)))
            by_cases h0 : pickV xs (q + 1 + 1 + 1 + e) 5 = 0
            · rw [if_pos h0]
              (repeat (refine And.intro ?_ ?_; focus (((repeat' apply And.intro) <;> first | exact rowsOf_w _ | omega | (simp only [List.length_append, rowsOf_len, List.length_cons, List.length_nil, marks_len, List.length_take, List.length_drop, List.length_set]; omega) | exact ⟨_, rfl⟩ | (refine ⟨_, rfl, ?_⟩; omega) | (refine ⟨_, rfl, ?_⟩; simp only [List.length_append, rowsOf_len, List.length_cons, List.length_nil, marks_len, List.length_take, List.length_drop, List.length_set]; omega) | kernel_rfl | (simp; done)); done)))
              subst he
              rw [pktV_0 hB ho h0]
              exact ⟨_, rfl, rfl, rfl⟩
            · rw [if_neg h0]
              by_cases h1 : pickV xs (q + 1 + 1 + 1 + e) 5 = 1
              · rw [if_pos h1]
                (repeat (refine And.intro ?_ ?_; focus (((repeat' apply And.intro) <;> first | exact rowsOf_w _ | omega | (simp only [List.length_append, rowsOf_len, List.length_cons, List.length_nil, marks_len, List.length_take, List.length_drop, List.length_set]; omega) | exact ⟨_, rfl⟩ | (refine ⟨_, rfl, ?_⟩; omega) | (refine ⟨_, rfl, ?_⟩; simp only [List.length_append, rowsOf_len, List.length_cons, List.length_nil, marks_len, List.length_take, List.length_drop, List.length_set]; omega) | kernel_rfl | (simp; done)); done)))
                subst he
                rw [pktV_1 hB ho h0 h1]
                exact ⟨_, rfl, rfl, rfl⟩
              · rw [if_neg h1]
                by_cases h2 : pickV xs (q + 1 + 1 + 1 + e) 5 = 2
                · rw [if_pos h2]
                  (repeat (refine And.intro ?_ ?_; focus (((repeat' apply And.intro) <;> first | exact rowsOf_w _ | omega | (simp only [List.length_append, rowsOf_len, List.length_cons, List.length_nil, marks_len, List.length_take, List.length_drop, List.length_set]; omega) | exact ⟨_, rfl⟩ | (refine ⟨_, rfl, ?_⟩; omega) | (refine ⟨_, rfl, ?_⟩; simp only [List.length_append, rowsOf_len, List.length_cons, List.length_nil, marks_len, List.length_take, List.length_drop, List.length_set]; omega) | kernel_rfl | (simp; done)); done)))
                  subst he
                  rw [pktV_2 hB ho h0 h1 h2]
                  exact ⟨_, rfl, rfl, rfl⟩
                · rw [if_neg h2]
                  by_cases h3 : pickV xs (q + 1 + 1 + 1 + e) 5 = 3
                  · rw [if_pos h3]
                    (repeat (refine And.intro ?_ ?_; focus (((repeat' apply And.intro) <;> first | exact rowsOf_w _ | omega | (simp only [List.length_append, rowsOf_len, List.length_cons, List.length_nil, marks_len, List.length_take, List.length_drop, List.length_set]; omega) | exact ⟨_, rfl⟩ | (refine ⟨_, rfl, ?_⟩; omega) | (refine ⟨_, rfl, ?_⟩; simp only [List.length_append, rowsOf_len, List.length_cons, List.length_nil, marks_len, List.length_take, List.length_drop, List.length_set]; omega) | kernel_rfl | (simp; done)); done)))
                    subst he
                    rw [pktV_3 hB ho h0 h1 h2 h3]
                    exact ⟨_, rfl, rfl, rfl⟩
                  · rw [if_neg h3]
                    (repeat (refine And.intro ?_ ?_; focus (((repeat' apply And.intro) <;> first | exact rowsOf_w _ | omega | (simp only [List.length_append, rowsOf_len, List.length_cons, List.length_nil, marks_len, List.length_take, List.length_drop, List.length_set]; omega) | exact ⟨_, rfl⟩ | (refine ⟨_, rfl, ?_⟩; omega) | (refine ⟨_, rfl, ?_⟩; simp only [List.length_append, rowsOf_len, List.length_cons, List.length_nil, marks_len, List.length_take, List.length_drop, List.length_set]; omega) | kernel_rfl | (simp; done)); done)))
                    subst he
                    rw [pktV_4 hB ho h0 h1 h2 h3]
                    exact ⟨_, rfl, rfl, rfl⟩
          · rw [if_neg ho]
            (repeat (refine And.intro ?_ ?_; focus (((repeat' apply And.intro) <;> first | exact rowsOf_w _ | omega | (simp only [List.length_append, rowsOf_len, List.length_cons, List.length_nil, marks_len, List.length_take, List.length_drop, List.length_set]; omega) | exact ⟨_, rfl⟩ | (refine ⟨_, rfl, ?_⟩; omega) | (refine ⟨_, rfl, ?_⟩; simp only [List.length_append, rowsOf_len, List.length_cons, List.length_nil, marks_len, List.length_take, List.length_drop, List.length_set]; omega) | kernel_rfl | (simp; done)); done)))
            subst he
            rw [pktV_n hB ho]
            exact ⟨_, rfl, rfl, rfl⟩
        · rw [if_neg hN0]
          (repeat (refine And.intro ?_ ?_; focus (((repeat' apply And.intro) <;> first | exact rowsOf_w _ | omega | (simp only [List.length_append, rowsOf_len, List.length_cons, List.length_nil, marks_len, List.length_take, List.length_drop, List.length_set]; omega) | exact ⟨_, rfl⟩ | (refine ⟨_, rfl, ?_⟩; omega) | (refine ⟨_, rfl, ?_⟩; simp only [List.length_append, rowsOf_len, List.length_cons, List.length_nil, marks_len, List.length_take, List.length_drop, List.length_set]; omega) | kernel_rfl | (simp; done)); done)))
          have hB : pkBase xs p = pkS xs p (pickV xs (q + 1) 20) false false (q + 1 + 1) := by rw [pkBase, ← hq, if_neg h4, if_pos h41, if_neg (by omega)]
          by_cases ho : (decide (0 < n) && pickV xs (q + 1 + 1) n == n - 1) = true
          · rw [if_pos ho]
            (repeat (refine And.intro ?_ ?_; focus (((repeat' apply And.intro) <;> first | exact rowsOf_w _ | omega | (simp only [List.length_append, rowsOf_len, List.length_cons, List.length_nil, marks_len, List.length_take, List.length_drop, List.length_set]; omega) | exact ⟨_, rfl⟩ | (refine ⟨_, rfl, ?_⟩; omega) | (refine ⟨_, rfl, ?_⟩; simp only [List.length_append, rowsOf_len, List.length_cons, List.length_nil, marks_len, List.length_take, List.length_drop, List.length_set]; omega) | kernel_rfl | (simp; done)); done)))
            by_cases h0 : pickV xs (q + 1 + 1 + e) 5 = 0
            · rw [if_pos h0]
              (repeat (refine And.intro ?_ ?_; focus (((repeat' apply And.intro) <;> first | exact rowsOf_w _ | omega | (simp only [List.length_append, rowsOf_len, List.length_cons, List.length_nil, marks_len, List.length_take, List.length_drop, List.length_set]; omega) | exact ⟨_, rfl⟩ | (refine ⟨_, rfl, ?_⟩; omega) | (refine ⟨_, rfl, ?_⟩; simp only [List.length_append, rowsOf_len, List.length_cons, List.length_nil, marks_len, List.length_take, List.length_drop, List.length_set]; omega) | kernel_rfl | (simp; done)); done)))
              subst he
              rw [pktV_0 hB ho h0]
              exact ⟨_, rfl, rfl, rfl⟩
            · rw [if_neg h0]
              by_cases h1 : pickV xs (q + 1 + 1 + e) 5 = 1
              · rw [if_pos h1]
                (repeat (refine And.intro ?_ ?_; focus (((repeat' apply And.intro) <;> first | exact rowsOf_w _ | omega | (simp only [List.length_append, rowsOf_len, List.length_cons, List.length_nil, marks_len, List.length_take, List.length_drop, List.length_set]; omega) | exact ⟨_, rfl⟩ | (refine ⟨_, rfl, ?_⟩; omega) | (refine ⟨_, rfl, ?_⟩; simp only [List.length_append, rowsOf_len, List.length_cons, List.length_nil, marks_len, List.length_take, List.length_drop, List.length_set]; omega) | kernel_rfl | (simp; done)); done)))
                subst he
                rw [pktV_1 hB ho h0 h1]
                exact ⟨_, rfl, rfl, rfl⟩
              · rw [if_neg h1]
                by_cases h2 : pickV xs (q + 1 + 1 + e) 5 = 2
                · rw [if_pos h2]
                  (repeat (refine And.intro ?_ ?_; focus (((repeat' apply And.intro) <;> first | exact rowsOf_w _ | omega | (simp only [List.length_append, rowsOf_len, List.length_cons, List.length_nil, marks_len, List.length_take, List.length_drop, List.length_set]; omega) | exact ⟨_, rfl⟩ | (refine ⟨_, rfl, ?_⟩; omega) | (refine ⟨_, rfl, ?_⟩; simp only [List.length_append, rowsOf_len, List.length_cons, List.length_nil, marks_len, List.length_take, List.length_drop, List.length_set]; omega) | kernel_rfl | (simp; done)); done)))
                  subst he
                  rw [pktV_2 hB ho h0 h1 h2]
                  exact ⟨_, rfl, rfl, rfl⟩
                · rw [if_neg h2]
                  by_cases h3 : pickV xs (q + 1 + 1 + e) 5 = 3
                  · rw [if_pos h3]
                    (repeat (refine And.intro ?_ ?_; focus (((repeat' apply And.intro) <;> first | exact rowsOf_w _ | omega | (simp only [List.length_append, rowsOf_len, List.length_cons, List.length_nil, marks_len, List.length_take, List.length_drop, List.length_set]; omega) | exact ⟨_, rfl⟩ | (refine ⟨_, rfl, ?_⟩; omega) | (refine ⟨_, rfl, ?_⟩; simp only [List.length_append, rowsOf_len, List.length_cons, List.length_nil, marks_len, List.length_take, List.length_drop, List.length_set]; omega) | kernel_rfl | (simp; done)); done)))
                    subst he
                    rw [pktV_3 hB ho h0 h1 h2 h3]
                    exact ⟨_, rfl, rfl, rfl⟩
                  · rw [if_neg h3]
                    (repeat (refine And.intro ?_ ?_; focus (((repeat' apply And.intro) <;> first | exact rowsOf_w _ | omega | (simp only [List.length_append, rowsOf_len, List.length_cons, List.length_nil, marks_len, List.length_take, List.length_drop, List.length_set]; omega) | exact ⟨_, rfl⟩ | (refine ⟨_, rfl, ?_⟩; omega) | (refine ⟨_, rfl, ?_⟩; simp only [List.length_append, rowsOf_len, List.length_cons, List.length_nil, marks_len, List.length_take, List.length_drop, List.length_set]; omega) | kernel_rfl | (simp; done)); done)))
                    subst he
                    rw [pktV_4 hB ho h0 h1 h2 h3]
                    exact ⟨_, rfl, rfl, rfl⟩
          · rw [if_neg ho]
            (repeat (refine And.intro ?_ ?_; focus (((repeat' apply And.intro) <;> first | exact rowsOf_w _ | omega | (simp only [List.length_append, rowsOf_len, List.length_cons, List.length_nil, marks_len, List.length_take, List.length_drop, List.length_set]; omega) | exact ⟨_, rfl⟩ | (refine ⟨_, rfl, ?_⟩; omega) | (refine ⟨_, rfl, ?_⟩; simp only [List.length_append, rowsOf_len, List.length_cons, List.length_nil, marks_len, List.length_take, List.length_drop, List.length_set]; omega) | kernel_rfl | (simp; done)); done)))
            subst he
            rw [pktV_n hB ho]
            exact ⟨_, rfl, rfl, rfl⟩
      · rw [if_neg h41]
        (repeat (refine And.intro ?_ ?_; focus (((repeat' apply And.intro) <;> first | exact rowsOf_w _ | omega | (simp only [List.length_append, rowsOf_len, List.length_cons, List.length_nil, marks_len, List.length_take, List.length_drop, List.length_set]; omega) | exact ⟨_, rfl⟩ | (refine ⟨_, rfl, ?_⟩; omega) | (refine ⟨_, rfl, ?_⟩; simp only [List.length_append, rowsOf_len, List.length_cons, List.length_nil, marks_len, List.length_take, List.length_drop, List.length_set]; omega) | kernel_rfl | (simp; done)); done)))
        have hB : pkBase xs p = pkS xs p 0 false false (q + 1) := by rw [pkBase, ← hq, if_neg h4, if_neg h41]
        by_cases ho : (decide (0 < n) && pickV xs (q + 1) n == n - 1) = true
        · rw [if_pos ho]
          (repeat (refine And.intro ?_ ?_; focus (((repeat' apply And.intro) <;> first | exact rowsOf_w _ | omega | (simp only [List.length_append, rowsOf_len, List.length_cons, List.length_nil, marks_len, List.length_take, List.length_drop, List.length_set]; omega) | exact ⟨_, rfl⟩ | (refine ⟨_, rfl, ?_⟩; omega) | (refine ⟨_, rfl, ?_⟩; simp only [List.length_append, rowsOf_len, List.length_cons, List.length_nil, marks_len, List.length_take, List.length_drop, List.length_set]; omega) | kernel_rfl | (simp; done)); done)))
          by_cases h0 : pickV xs (q + 1 + e) 5 = 0
          · rw [if_pos h0]
            (repeat (refine And.intro ?_ ?_; focus (((repeat' apply And.intro) <;> first | exact rowsOf_w _ | omega | (simp only [List.length_append, rowsOf_len, List.length_cons, List.length_nil, marks_len, List.length_take, List.length_drop, List.length_set]; omega) | exact ⟨_, rfl⟩ | (refine ⟨_, rfl, ?_⟩; omega) | (refine ⟨_, rfl, ?_⟩; simp only [List.length_append, rowsOf_len, List.length_cons, List.length_nil, marks_len, List.length_take, List.length_drop, List.length_set]; omega) | kernel_rfl | (simp; done)); done)))
            subst he
            rw [pktV_0 hB ho h0]
            exact ⟨_, rfl, rfl, rfl⟩
          · rw [if_neg h0]
            by_cases h1 : pickV xs (q + 1 + e) 5 = 1
            · rw [if_pos h1]
              (repeat (refine And.intro ?_ ?_; focus (((repeat' apply And.intro) <;> first | exact rowsOf_w _ | omega | (simp only [List.length_append, rowsOf_len, List.length_cons, List.length_nil, marks_len, List.length_take, List.length_drop, List.length_set]; omega) | exact ⟨_, rfl⟩ | (refine ⟨_, rfl, ?_⟩; omega) | (refine ⟨_, rfl, ?_⟩; simp only [List.length_append, rowsOf_len, List.length_cons, List.length_nil, marks_len, List.length_take, List.length_drop, List.length_set]; omega) | kernel_rfl | (simp; done)); done)))
              subst he
              rw [pktV_1 hB ho h0 h1]
              exact ⟨_, rfl, rfl, rfl⟩
            · rw [if_neg h1]
              by_cases h2 : pickV xs (q + 1 + e) 5 = 2
              · rw [if_pos h2]
                (repeat (refine And.intro ?_ ?_; focus (((repeat' apply And.intro) <;> first | exact rowsOf_w _ | omega | (simp only [List.length_append, rowsOf_len, List.length_cons, List.length_nil, marks_len, List.length_take, List.length_drop, List.length_set]; omega) | exact ⟨_, rfl⟩ | (refine ⟨_, rfl, ?_⟩; omega) | (refine ⟨_, rfl, ?_⟩; simp only [List.length_append, rowsOf_len, List.length_cons, List.length_nil, marks_len, List.length_take, List.length_drop, List.length_set]; omega) | kernel_rfl | (simp; done)); done)))
                subst he
                rw [pktV_2 hB ho h0 h1 h2]
                exact ⟨_, rfl, rfl, rfl⟩
              · rw [if_neg h2]
                by_cases h3 : pickV xs (q + 1 + e) 5 = 3
                · rw [if_pos h3]
                  (repeat (refine And.intro ?_ ?_; focus (((repeat' apply And.intro) <;> first | exact rowsOf_w _ | omega | (simp only [List.length_append, rowsOf_len, List.length_cons, List.length_nil, marks_len, List.length_take, List.length_drop, List.length_set]; omega) | exact ⟨_, rfl⟩ | (refine ⟨_, rfl, ?_⟩; omega) | (refine ⟨_, rfl, ?_⟩; simp only [List.length_append, rowsOf_len, List.length_cons, List.length_nil, marks_len, List.length_take, List.length_drop, List.length_set]; omega) | kernel_rfl | (simp; done)); done)))
                  subst he
                  rw [pktV_3 hB ho h0 h1 h2 h3]
                  exact ⟨_, rfl, rfl, rfl⟩
                · rw [if_neg h3]
                  (repeat (refine And.intro ?_ ?_; focus (((repeat' apply And.intro) <;> first | exact rowsOf_w _ | omega | (simp only [List.length_append, rowsOf_len, List.length_cons, List.length_nil, marks_len, List.length_take, List.length_drop, List.length_set]; omega) | exact ⟨_, rfl⟩ | (refine ⟨_, rfl, ?_⟩; omega) | (refine ⟨_, rfl, ?_⟩; simp only [List.length_append, rowsOf_len, List.length_cons, List.length_nil, marks_len, List.length_take, List.length_drop, List.length_set]; omega) | kernel_rfl | (simp; done)); done)))
                  subst he
                  rw [pktV_4 hB ho h0 h1 h2 h3]
                  exact ⟨_, rfl, rfl, rfl⟩
        · rw [if_neg ho]
          (repeat (refine And.intro ?_ ?_; focus (((repeat' apply And.intro) <;> first | exact rowsOf_w _ | omega | (simp only [List.length_append, rowsOf_len, List.length_cons, List.length_nil, marks_len, List.length_take, List.length_drop, List.length_set]; omega) | exact ⟨_, rfl⟩ | (refine ⟨_, rfl, ?_⟩; omega) | (refine ⟨_, rfl, ?_⟩; simp only [List.length_append, rowsOf_len, List.length_cons, List.length_nil, marks_len, List.length_take, List.length_drop, List.length_set]; omega) | kernel_rfl | (simp; done)); done)))
          subst he
          rw [pktV_n hB ho]
          exact ⟨_, rfl, rfl, rfl⟩
  · cases hg
end Go.Proofs.Ytdanjfnobanehaa
