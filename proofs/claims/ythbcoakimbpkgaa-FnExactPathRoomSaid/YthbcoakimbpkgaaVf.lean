import Derived.Test.YthbcoakimbpkgaaVa
import Derived.Test.YthbcoakimbpkgaaR6
set_option linter.unusedVariables false
set_option linter.unusedSimpArgs false
namespace Go.Proofs.Ythbcoakimbpkgaa
open Go.RowKit
set_option linter.unusedSimpArgs false
structure PkV where
  f : Int
  t : Int
  pr : Int
  h : Int
  i : Int
  a : Int
  m : Bool
  u : Bool
  d : List UInt8
  q : Int
def pkN (xs : List UInt8) (p : Int) : Nat := (pickV xs (p + 1 + 1 + 1 + 1 + 1) 12).toNat
def pkQ (xs : List UInt8) (p : Int) : Int := p + 1 + 1 + 1 + 1 + 1 + 1 + 2 * (pkN xs p : Int)
def pkS (xs : List UInt8) (p : Int) (a : Int) (m u : Bool) (q : Int) : PkV := ⟨pickV xs p 5, pickV xs (p + 1) 5, pickV xs (p + 1 + 1) 4, pickV xs (p + 1 + 1 + 1) 6, pickV xs (p + 1 + 1 + 1 + 1) 4, a, m, u, bytesV xs (p + 1 + 1 + 1 + 1 + 1 + 1) (pkN xs p), q⟩
def pkBase (xs : List UInt8) (p : Int) : PkV :=
  if pickV xs (pkQ xs p) 4 = 0 then pkS xs p 0 false true (pkQ xs p + 1)
  else if pickV xs (pkQ xs p) 4 = 1 then
    if 0 < pkN xs p then pkS xs p (pickV xs (pkQ xs p + 1) 20) (pickV xs (pkQ xs p + 1 + 1) 2 == 0) false (pkQ xs p + 1 + 1 + 1)
    else pkS xs p (pickV xs (pkQ xs p + 1) 20) false false (pkQ xs p + 1 + 1)
  else pkS xs p 0 false false (pkQ xs p + 1)
def pktE (xs : List UInt8) (b : PkV) (x : Int) : PkV :=
  if pickV xs x 5 = 0 then { b with t := IntKind.i64.wrap (65536 - IntKind.i64.wrap (pickV xs (x + 1) 2 * 65540)), q := x + 1 + 1 }
  else if pickV xs x 5 = 1 then { b with h := IntKind.i64.wrap (256 - IntKind.i64.wrap (pickV xs (x + 1) 2 * 300)), q := x + 1 + 1 }
  else if pickV xs x 5 = 2 then { b with d := List.replicate 49 0, q := x + 1 }
  else if pickV xs x 5 = 3 then { b with m := true, d := [], q := x + 1 }
  else { b with u := true, a := 3, q := x + 1 }
def pktO (xs : List UInt8) (b : PkV) (n : Int) : PkV :=
  if (decide (0 < n) && pickV xs b.q n == n - 1) = true then pktE xs b (b.q + oneIf n) else { b with q := b.q + oneIf n }
def pktV (xs : List UInt8) (p n : Int) : PkV := pktO xs (pkBase xs p) n
theorem pkN_le (xs : List UInt8) (p : Int) : pkN xs p ≤ 11 := by
  have := pickV_lt xs (p + 1 + 1 + 1 + 1 + 1) 12 (by omega)
  unfold pkN; omega
theorem pkBase_q (xs : List UInt8) (p : Int) : p ≤ (pkBase xs p).q ∧ (pkBase xs p).q < p + 40 ∧ (pkBase xs p).d.length ≤ 11 := by
  have h := pkN_le xs p
  have hq : pkQ xs p = p + 1 + 1 + 1 + 1 + 1 + 1 + 2 * (pkN xs p : Int) := rfl
  unfold pkBase pkS
  split
  · dsimp only; rw [bytesV_len]; omega
  · split
    · split <;> (dsimp only; rw [bytesV_len]; omega)
    · dsimp only; rw [bytesV_len]; omega
theorem pktV_q (xs : List UInt8) (p n : Int) : p ≤ (pktV xs p n).q ∧ (pktV xs p n).q < p + 50 ∧ (pktV xs p n).d.length ≤ 49 := by
  have h := pkBase_q xs p
  have := oneIf_le n
  unfold pktV pktO
  split
  · unfold pktE
    repeat' split
    all_goals (dsimp only; first | omega | (rw [List.length_replicate]; omega) | (rw [List.length_nil]; omega))
  · dsimp only; omega
theorem pktV_n {xs : List UInt8} {p n : Int} {b : PkV} (hB : pkBase xs p = b) (ho : ¬ (decide (0 < n) && pickV xs b.q n == n - 1) = true) : pktV xs p n = { b with q := b.q + oneIf n } := by
  rw [pktV, hB, pktO, if_neg ho]
theorem pktV_0 {xs : List UInt8} {p n : Int} {b : PkV} (hB : pkBase xs p = b) (ho : (decide (0 < n) && pickV xs b.q n == n - 1) = true) (h0 : pickV xs (b.q + oneIf n) 5 = 0) : pktV xs p n = { b with t := IntKind.i64.wrap (65536 - IntKind.i64.wrap (pickV xs (b.q + oneIf n + 1) 2 * 65540)), q := b.q + oneIf n + 1 + 1 } := by
  rw [pktV, hB, pktO, if_pos ho, pktE, if_pos h0]
theorem pktV_1 {xs : List UInt8} {p n : Int} {b : PkV} (hB : pkBase xs p = b) (ho : (decide (0 < n) && pickV xs b.q n == n - 1) = true) (h0 : ¬ pickV xs (b.q + oneIf n) 5 = 0) (h1 : pickV xs (b.q + oneIf n) 5 = 1) : pktV xs p n = { b with h := IntKind.i64.wrap (256 - IntKind.i64.wrap (pickV xs (b.q + oneIf n + 1) 2 * 300)), q := b.q + oneIf n + 1 + 1 } := by
  rw [pktV, hB, pktO, if_pos ho, pktE, if_neg h0, if_pos h1]
theorem pktV_2 {xs : List UInt8} {p n : Int} {b : PkV} (hB : pkBase xs p = b) (ho : (decide (0 < n) && pickV xs b.q n == n - 1) = true) (h0 : ¬ pickV xs (b.q + oneIf n) 5 = 0) (h1 : ¬ pickV xs (b.q + oneIf n) 5 = 1) (h2 : pickV xs (b.q + oneIf n) 5 = 2) : pktV xs p n = { b with d := List.replicate 49 0, q := b.q + oneIf n + 1 } := by
  rw [pktV, hB, pktO, if_pos ho, pktE, if_neg h0, if_neg h1, if_pos h2]
theorem pktV_3 {xs : List UInt8} {p n : Int} {b : PkV} (hB : pkBase xs p = b) (ho : (decide (0 < n) && pickV xs b.q n == n - 1) = true) (h0 : ¬ pickV xs (b.q + oneIf n) 5 = 0) (h1 : ¬ pickV xs (b.q + oneIf n) 5 = 1) (h2 : ¬ pickV xs (b.q + oneIf n) 5 = 2) (h3 : pickV xs (b.q + oneIf n) 5 = 3) : pktV xs p n = { b with m := true, d := [], q := b.q + oneIf n + 1 } := by
  rw [pktV, hB, pktO, if_pos ho, pktE, if_neg h0, if_neg h1, if_neg h2, if_pos h3]
theorem pktV_4 {xs : List UInt8} {p n : Int} {b : PkV} (hB : pkBase xs p = b) (ho : (decide (0 < n) && pickV xs b.q n == n - 1) = true) (h0 : ¬ pickV xs (b.q + oneIf n) 5 = 0) (h1 : ¬ pickV xs (b.q + oneIf n) 5 = 1) (h2 : ¬ pickV xs (b.q + oneIf n) 5 = 2) (h3 : ¬ pickV xs (b.q + oneIf n) 5 = 3) : pktV xs p n = { b with u := true, a := 3, q := b.q + oneIf n + 1 } := by
  rw [pktV, hB, pktO, if_pos ho, pktE, if_neg h0, if_neg h1, if_neg h2, if_neg h3]
def g_packet : OC := fun args B0 => match args, B0 with
  | [.ptr r o, .v (.int .i64 n)], [.var T [.l 1 rows, .v (.int .i64 p)]] => some (T = 125 ∧ r = 0 ∧ o = 0 ∧ (∃ xs, rows = rowsOfBytes xs ∧ xs.length ≤ 2000) ∧ 0 ≤ p ∧ p < 100000000000 ∧ 0 ≤ n ∧ n ≤ 1000000,
      .agg [.v (.int .i64 (pktV (bytesOfRows rows) p n).f), .v (.int .i64 (pktV (bytesOfRows rows) p n).t), .v (.int .i64 (pktV (bytesOfRows rows) p n).pr), .v (.int .i64 (pktV (bytesOfRows rows) p n).h), .v (.int .i64 (pktV (bytesOfRows rows) p n).i), .v (.int .i64 (pktV (bytesOfRows rows) p n).a), .v (.bool (pktV (bytesOfRows rows) p n).m), .v (.bool (pktV (bytesOfRows rows) p n).u), .l 1 (rowsOfBytes (pktV (bytesOfRows rows) p n).d)], [.var T [.l 1 rows, .v (.int .i64 (pktV (bytesOfRows rows) p n).q)]], [])
  | _, _ => none
set_option maxHeartbeats 0 in
set_option maxRecDepth 100000 in
theorem packet_ok : OwnOk Try.prog 70 g_packet := by
  refine OwnOk.of_vcL (G := reads) reads_ok mixed Try.func70 (by kernel_rfl) rfl ?_
  intro args B0 cnd r B1 bs hg hc hlive
  unfold g_packet at hg
  split at hg
  · rename_i r o n T rows p
    cases hg
    obtain ⟨rfl, rfl, rfl, ⟨xs, rfl, hl⟩, hp0, hp1, hn0, hn1⟩ := hc
    rw [bytesOf_rows]
    refine ⟨⟨by simp [likeBs, likeB], rfl, fun b hb => by simp at hb; subst hb; exact ⟨_, _, rfl, rfl⟩, by simp [AV.ids, AV.ids.idsL]⟩, _, rfl, fun w Z s vs h => h, ?_⟩
    clear hlive
    have hx : (∃ ys, rowsOfBytes xs = rowsOfBytes ys ∧ ys.length ≤ 2000) = True := eq_true ⟨xs, rfl, hl⟩
    have k9 := pickV_nonneg xs (p + 1 + 1 + 1 + 1 + 1) 12 (by omega)
    have k9' := pickV_lt xs (p + 1 + 1 + 1 + 1 + 1) 12 (by omega)
    obtain ⟨q, hq⟩ : ∃ q, q = pkQ xs p := ⟨_, rfl⟩
    obtain ⟨N, hN⟩ : ∃ N, N = pkN xs p := ⟨_, rfl⟩
    obtain ⟨e, he⟩ : ∃ e, e = oneIf n := ⟨_, rfl⟩
    have be := oneIf_le n
    rw [← he] at be
    have hN' : (pickV xs (p + 1 + 1 + 1 + 1 + 1) 12).toNat = N := hN.symm
    have hq' : p + 1 + 1 + 1 + 1 + 1 + 1 + 2 * (N : Int) = q := by rw [hN, hq]; rfl
    have he' : (if 0 < n then (1 : Int) else 0) = e := he.symm
    have bq : p ≤ q ∧ q < p + 30 := by rw [← hq']; omega
    have bN : N ≤ 11 := by omega
    simp (maxSteps := 3000000) only [Try.f70, reads, g_pick, g_odd, g_bytes, bytesOf_rows, rowsOf_len, bytesV_len, tY2, tY3, tY4, tY5, tY9, tY12, tY21, tY22, tY23, tY24, tY25, tY30, tY31, tY34, tY35, tY36, tY42, tY47, tY48, tY51, tY55, tY56, tY62, tY63, tY64, tY69, tY76, tY104, tY105, tY109, tY110, tY111, tY114, tY124, tY125, tY137, tY154, tY163, Try.underlying2, Try.underlying3, Try.underlying4, Try.underlying5, Try.underlying9, Try.underlying12, Try.underlying21, Try.underlying22, Try.underlying23, Try.underlying24, Try.underlying25, Try.underlying30, Try.underlying31, Try.underlying34, Try.underlying35, Try.underlying36, Try.underlying42, Try.underlying47, Try.underlying48, Try.underlying51, Try.underlying55, Try.underlying56, Try.underlying62, Try.underlying63, Try.underlying64, Try.underlying69, Try.underlying76, Try.underlying104, Try.underlying105, Try.underlying109, Try.underlying110, Try.underlying111, Try.underlying114, Try.underlying124, Try.underlying125, Try.underlying137, Try.underlying154, Try.underlying163, e_skip, e_label, e_ret, e_exit, e_seq, e_cond, e_block, e_region, seqK_normal, seqK_ret, seqK_exit, blkK_normal, blkK_ret, blkK_exit, condK_some, regK_true, regK_false, e_nil, e_cons, gateK_go, gateK_skip, gateK_ask, pickK_some, exK_some, x_pick, x_move, x_assign, x_alloc, x_box, x_build, x_buildSlice, x_load, x_store, x_binOp, x_unOp, x_convert, x_makeSlice, x_slice, x_fieldAddr, x_field, x_indexAddr, x_extract, x_nilCheck, x_call, x_len, x_append, x_min, oMin, x_copy, oCopy, eqAVs, callK_some, done_ret, done_normal, doneO_ret, doneO_normal, endsO_one, endsO_nil, endsO_more, ownAbs, frzAbs, leafs, leafs.leafsL, uniq, idxOf, bk, zipB, Blk.liveB, gate_none, gate_some, gateS_none, gateS_some, gateV_bool, gateV_undef, boolOf, evA, putT, refn, fpD, oBin, oUn, upsl, upl, up, ups, lk, dstsOf, resL, resA, packA, oLoadQ, oLoadKid, oStoreQ, oStoreTree, oBuildSliceQ, oBuildTree, oAppendQ, oAppendTree, isTr, isTrP, tkd, tkds, tkRows, ownOf, nodupB, deadL, treeOf, kidAbs, kidBlk, kidRows, TK.isCell, D.toL, oLoad, oStore, oAlloc, oBox, oBuild, oBuildSlice, oMake, oAppend, oIndexAddr, oFieldAddr, oField, oExtract, oNil, oSlice, oSliceQ, oLen, oConvert, rowLoad, fillA, fillR, slB, dk, dks, dkRows, frz, loOf, hiOf, lenOf, rowsOf, nilV, lenV, putAt, views, viewsOk, CK.av, CK.ok, AV.cells, AV.one, Value.oneCell', Value.cells, pureAbs, nrm, nrm.nrmL, hpAt, sh, AV.ren, AV.ren.renL, Blk.ren, fpOf, footO, foot, blkIds, AV.ids, AV.ids.idsL, Op.operands, Call.operands, List.find?_cons, List.find?_nil, Nat.reduceBEq, beq_self_eq_true, List.map_cons, List.map_nil, List.getD_cons_zero, List.getD_cons_succ, List.getD_nil, List.set_cons_zero, List.set_cons_succ, List.length_cons, List.length_nil, List.replicate, List.cons_append, List.nil_append, List.append_nil, List.getElem?_cons_zero, List.getElem?_cons_succ, List.getElem?_toArray, List.getElem?_nil, List.take_zero, List.take_succ_cons, List.take_nil, List.drop_zero, List.drop_succ_cons, List.drop_nil, List.headD_cons, List.tail_cons, List.flatten_cons, List.flatten_nil, List.flatMap_cons, List.flatMap_nil, List.toList_toArray, Array.toList_append, Option.bind_some, Option.map_some, Option.map_none, Option.isSome_some, List.all_nil, List.all_cons, Bool.and_self, Bool.and_true, Bool.true_and, true_and, and_true, ↓reduceIte, List.size_toArray, Bool.false_eq_true, Bool.true_eq_false, false_implies, true_implies, Bool.not_true, Bool.not_false, and_self, implies_true, decide_true, decide_false, Nat.reduceAdd, Nat.reduceMul, Nat.reduceLT, Nat.reduceSub, Nat.reduceLeDiff, Nat.reduceEqDiff, eq_self, ne_eq, not_false_eq_true, false_and, and_false, reduceCtorEq, List.filter_nil, List.filter_cons, List.isEmpty_nil, List.isEmpty_cons, bne_self_eq_false, Nat.reduceBneDiff, Nat.lt_add_one, Nat.zero_lt_succ, List.append_assoc, Nat.zero_le, and_self_iff, Int.reduceToNat, List.any_nil, List.any_cons, List.filterMap_nil, List.filterMap_cons, List.contains_nil, List.contains_cons, Bool.or_false, Bool.false_or, Bool.or_true, Bool.true_or, Bool.false_and, Bool.and_false, decide_eq_true_eq, decide_eq_false_iff_not, beq_iff_eq, Int.toNat_natCast, doneL_ret, doneL_normal, hx, hN', hq', he']
    (repeat (refine And.intro ?_ ?_; focus (((repeat' apply And.intro) <;> first | exact rowsOf_w _ | omega | (simp only [List.length_append, rowsOf_len, List.length_cons, List.length_nil, marks_len, List.length_take, List.length_drop, List.length_set]; omega) | exact ⟨_, rfl⟩ | (refine ⟨_, rfl, ?_⟩; omega) | (refine ⟨_, rfl, ?_⟩; simp only [List.length_append, rowsOf_len, List.length_cons, List.length_nil, marks_len, List.length_take, List.length_drop, List.length_set]; omega) | kernel_rfl | (simp; done)); done)))
    clear hq' he' hN' k9 k9'
    subst hN
    by_cases h4 : pickV xs q 4 = 0
    · rw [if_pos h4]
      (repeat (refine And.intro ?_ ?_; focus (((repeat' apply And.intro) <;> first | exact rowsOf_w _ | omega | (simp only [List.length_append, rowsOf_len, List.length_cons, List.length_nil, marks_len, List.length_take, List.length_drop, List.length_set]; omega) | exact ⟨_, rfl⟩ | (refine ⟨_, rfl, ?_⟩; omega) | (refine ⟨_, rfl, ?_⟩; simp only [List.length_append, rowsOf_len, List.length_cons, List.length_nil, marks_len, List.length_take, List.length_drop, List.length_set]; omega) | kernel_rfl | (simp; done)); done)))
      have hB : pkBase xs p = pkS xs p 0 false true (q + 1) := by rw [pkBase, ← hq, if_pos h4]
      by_cases ho : (decide (0 < n) && pickV xs (q + 1) n == n - 1) = true
      · rw [if_pos ho]
        (repeat (refine And.intro ?_ ?_; focus (((repeat' apply And.intro) <;> first | exact rowsOf_w _ | omega | (simp only [List.length_append, rowsOf_len, List.length_cons, List.length_nil, marks_len, List.length_take, List.length_drop, List.length_set]; omega) | exact ⟨_, rfl⟩ | (refine ⟨_, rfl, ?_⟩; omega) | (refine ⟨_, rfl, ?_⟩; simp only [List.length_append, rowsOf_len, List.length_cons, List.length_nil, marks_len, List.length_take, List.length_drop, List.length_set]; omega) | kernel_rfl | (simp; done)); done)))
        by_cases h0 : pickV xs (q + 1 + e) 5 = 0
        · rw [if_pos h0]
          (repeat (refine And.intro ?_ ?_; focus (((repeat' apply And.intro) <;> first | exact rowsOf_w _ | omega | (simp only [List.length_append, rowsOf_len, List.length_cons, List.length_nil, marks_len, List.length_take, List.length_drop, List.length_set]; omega) | exact ⟨_, rfl⟩ | (refine ⟨_, rfl, ?_⟩; omega) | (refine ⟨_, rfl, ?_⟩; simp only [List.length_append, rowsOf_len, List.length_cons, List.length_nil, marks_len, List.length_take, List.length_drop, List.length_set]; omega) | kernel_rfl | (simp; done)); done)))
          subst he
          rw [pktV_0 hB ho h0]
          exact ⟨_, rfl, rfl, rfl⟩
        · rw [if_neg h0]
          by_cases h1 : pickV xs (q + 1 + e) 5 = 1
          · rw [if_pos h1]
            (repeat (refine And.intro ?_ ?_; focus (((repeat' apply And.intro) <;> first | exact rowsOf_w _ | omega | (simp only [List.length_append, rowsOf_len, List.length_cons, List.length_nil, marks_len, List.length_take, List.length_drop, List.length_set]; omega) | exact ⟨_, rfl⟩ | (refine ⟨_, rfl, ?_⟩; omega) | (refine ⟨_, rfl, ?_⟩; simp only [List.length_append, rowsOf_len, List.length_cons, List.length_nil, marks_len, List.length_take, List.length_drop, List.length_set]; omega) | kernel_rfl | (simp; done)); done)))
            subst he
            rw [pktV_1 hB ho h0 h1]
            exact ⟨_, rfl, rfl, rfl⟩
          · rw [if_neg h1]
            by_cases h2 : pickV xs (q + 1 + e) 5 = 2
            · rw [if_pos h2]
              (repeat (refine And.intro ?_ ?_; focus (((repeat' apply And.intro) <;> first | exact rowsOf_w _ | omega | (simp only [List.length_append, rowsOf_len, List.length_cons, List.length_nil, marks_len, List.length_take, List.length_drop, List.length_set]; omega) | exact ⟨_, rfl⟩ | (refine ⟨_, rfl, ?_⟩; omega) | (refine ⟨_, rfl, ?_⟩; simp only [List.length_append, rowsOf_len, List.length_cons, List.length_nil, marks_len, List.length_take, List.length_drop, List.length_set]; omega) | kernel_rfl | (simp; done)); done)))
              subst he
              rw [pktV_2 hB ho h0 h1 h2]
              exact ⟨_, rfl, rfl, rfl⟩
            · rw [if_neg h2]
              by_cases h3 : pickV xs (q + 1 + e) 5 = 3
              · rw [if_pos h3]
                (repeat (refine And.intro ?_ ?_; focus (((repeat' apply And.intro) <;> first | exact rowsOf_w _ | omega | (simp only [List.length_append, rowsOf_len, List.length_cons, List.length_nil, marks_len, List.length_take, List.length_drop, List.length_set]; omega) | exact ⟨_, rfl⟩ | (refine ⟨_, rfl, ?_⟩; omega) | (refine ⟨_, rfl, ?_⟩; simp only [List.length_append, rowsOf_len, List.length_cons, List.length_nil, marks_len, List.length_take, List.length_drop, List.length_set]; omega) | kernel_rfl | (simp; done)); done)))
                subst he
                rw [pktV_3 hB ho h0 h1 h2 h3]
                exact ⟨_, rfl, rfl, rfl⟩
              · rw [if_neg h3]
                (repeat (refine And.intro ?_ ?_; focus (((repeat' apply And.intro) <;> first | exact rowsOf_w _ | omega | (simp only [List.length_append, rowsOf_len, List.length_cons, List.length_nil, marks_len, List.length_take, List.length_drop, List.length_set]; omega) | exact ⟨_, rfl⟩ | (refine ⟨_, rfl, ?_⟩; omega) | (refine ⟨_, rfl, ?_⟩; simp only [List.length_append, rowsOf_len, List.length_cons, List.length_nil, marks_len, List.length_take, List.length_drop, List.length_set]; omega) | kernel_rfl | (simp; done)); done)))
                subst he
                rw [pktV_4 hB ho h0 h1 h2 h3]
                exact ⟨_, rfl, rfl, rfl⟩
      · rw [if_neg ho]
        (repeat (refine And.intro ?_ ?_; focus (((repeat' apply And.intro) <;> first | exact rowsOf_w _ | omega | (simp only [List.length_append, rowsOf_len, List.length_cons, List.length_nil, marks_len, List.length_take, List.length_drop, List.length_set]; omega) | exact ⟨_, rfl⟩ | (refine ⟨_, rfl, ?_⟩; omega) | (refine ⟨_, rfl, ?_⟩; simp only [List.length_append, rowsOf_len, List.length_cons, List.length_nil, marks_len, List.length_take, List.length_drop, List.length_set]; omega) | kernel_rfl | (simp; done)); done)))
        subst he
        rw [pktV_n hB ho]
        exact ⟨_, rfl, rfl, rfl⟩
    · rw [if_neg h4]
      by_cases h41 : pickV xs q 4 = 1
      · rw [if_pos h41]
        (repeat (refine And.intro ?_ ?_; focus (((repeat' apply And.intro) <;> first | exact rowsOf_w _ | omega | (simp only [List.length_append, rowsOf_len, List.length_cons, List.length_nil, marks_len, List.length_take, List.length_drop, List.length_set]; omega) | exact ⟨_, rfl⟩ | (refine ⟨_, rfl, ?_⟩; omega) | (refine ⟨_, rfl, ?_⟩; simp only [List.length_append, rowsOf_len, List.length_cons, List.length_nil, marks_len, List.length_take, List.length_drop, List.length_set]; omega) | kernel_rfl | (simp; done)); done)))
        by_cases hN0 : (pkN xs p : Int) > 0
        · rw [if_pos hN0]
          (repeat (refine And.intro ?_ ?_; focus (((repeat' apply And.intro) <;> first | exact rowsOf_w _ | omega | (simp only [List.length_append, rowsOf_len, List.length_cons, List.length_nil, marks_len, List.length_take, List.length_drop, List.length_set]; omega) | exact ⟨_, rfl⟩ | (refine ⟨_, rfl, ?_⟩; omega) | (refine ⟨_, rfl, ?_⟩; simp only [List.length_append, rowsOf_len, List.length_cons, List.length_nil, marks_len, List.length_take, List.length_drop, List.length_set]; omega) | kernel_rfl | (simp; done)); done)))
          have hB : pkBase xs p = pkS xs p (pickV xs (q + 1) 20) (pickV xs (q + 1 + 1) 2 == 0) false (q + 1 + 1 + 1) := by rw [pkBase, ← hq, if_neg h4, if_pos h41, if_pos (by omega)]
          by_cases ho : (decide (0 < n) && pickV xs (q + 1 + 1 + 1) n == n - 1) = true
          · rw [if_pos ho]
            (repeat (refine And.intro ?_ ?_; focus (((repeat' apply And.intro) <;> first | exact rowsOf_w _ | omega | (simp only [List.length_append, rowsOf_len, List.length_cons, List.length_nil, marks_len, List.length_take, List.length_drop, List.length_set]; omega) | exact ⟨_, rfl⟩ | (refine ⟨_, rfl, ?_⟩; omega) | (refine ⟨_, rfl, ?_⟩; simp only [List.length_append, rowsOf_len, List.length_cons, List.length_nil, marks_len, List.length_take, List.length_drop, List.length_set]; omega) | kernel_rfl | (simp; done)); done)))
            by_cases h0 : pickV xs (q + 1 + 1 + 1 + e) 5 = 0
            · rw [if_pos h0]
              (repeat (refine And.intro ?_ ?_; focus (((repeat' apply And.intro) <;> first | exact rowsOf_w _ | omega | (simp only [List.length_append, rowsOf_len, List.length_cons, List.length_nil, marks_len, List.length_take, List.length_drop, List.length_set]; omega) | exact ⟨_, rfl⟩ | (refine ⟨_, rfl, ?_⟩; omega) | (refine ⟨_, rfl, ?_⟩; simp only [List.length_append, rowsOf_len, List.length_cons, List.length_nil, marks_len, List.length_take, List.length_drop, List.length_set]; omega) | kernel_rfl | (simp; done)); done)))
              subst he
              rw [pktV_0 hB ho h0]
              exact ⟨_, rfl, rfl, rfl⟩
            · rw [if_neg h0]
              by_cases h1 : pickV xs (q + 1 + 1 + 1 + e) 5 = 1
              · rw [if_pos h1]
                (repeat (refine And.intro ?_ ?_; focus (((repeat' apply And.intro) <;> first | exact rowsOf_w _ | omega | (simp only [List.length_append, rowsOf_len, List.length_cons, List.length_nil, marks_len, List.length_take, List.length_drop, List.length_set]; omega) | exact ⟨_, rfl⟩ | (refine ⟨_, rfl, ?_⟩; omega) | (refine ⟨_, rfl, ?_⟩; simp only [List.length_append, rowsOf_len, List.length_cons, List.length_nil, marks_len, List.length_take, List.length_drop, List.length_set]; omega) | kernel_rfl | (simp; done)); done)))
                subst he
                rw [pktV_1 hB ho h0 h1]
                exact ⟨_, rfl, rfl, rfl⟩
              · rw [if_neg h1]
                by_cases h2 : pickV xs (q + 1 + 1 + 1 + e) 5 = 2
                · rw [if_pos h2]
                  (repeat (refine And.intro ?_ ?_; focus (((repeat' apply And.intro) <;> first | exact rowsOf_w _ | omega | (simp only [List.length_append, rowsOf_len, List.length_cons, List.length_nil, marks_len, List.length_take, List.length_drop, List.length_set]; omega) | exact ⟨_, rfl⟩ | (refine ⟨_, rfl, ?_⟩; omega) | (refine ⟨_, rfl, ?_⟩; simp only [List.length_append, rowsOf_len, List.length_cons, List.length_nil, marks_len, List.length_take, List.length_drop, List.length_set]; omega) | kernel_rfl | (simp; done)); done)))
                  subst he
                  rw [pktV_2 hB ho h0 h1 h2]
                  exact ⟨_, rfl, rfl, rfl⟩
                · rw [if_neg h2]
                  by_cases h3 : pickV xs (q + 1 + 1 + 1 + e) 5 = 3
                  · rw [if_pos h3]
                    (repeat (refine And.intro ?_ ?_; focus (((repeat' apply And.intro) <;> first | exact rowsOf_w _ | omega | (simp only [List.length_append, rowsOf_len, List.length_cons, List.length_nil, marks_len, List.length_take, List.length_drop, List.length_set]; omega) | exact ⟨_, rfl⟩ | (refine ⟨_, rfl, ?_⟩; omega) | (refine ⟨_, rfl, ?_⟩; simp only [List.length_append, rowsOf_len, List.length_cons, List.length_nil, marks_len, List.length_take, List.length_drop, List.length_set]; omega) | kernel_rfl | (simp; done)); done)))
                    subst he
                    rw [pktV_3 hB ho h0 h1 h2 h3]
                    exact ⟨_, rfl, rfl, rfl⟩
                  · rw [if_neg h3]
                    (repeat (refine And.intro ?_ ?_; focus (((repeat' apply And.intro) <;> first | exact rowsOf_w _ | omega | (simp only [List.length_append, rowsOf_len, List.length_cons, List.length_nil, marks_len, List.length_take, List.length_drop, List.length_set]; omega) | exact ⟨_, rfl⟩ | (refine ⟨_, rfl, ?_⟩; omega) | (refine ⟨_, rfl, ?_⟩; simp only [List.length_append, rowsOf_len, List.length_cons, List.length_nil, marks_len, List.length_take, List.length_drop, List.length_set]; omega) | kernel_rfl | (simp; done)); done)))
                    subst he
                    rw [pktV_4 hB ho h0 h1 h2 h3]
                    exact ⟨_, rfl, rfl, rfl⟩
          · rw [if_neg ho]
            (repeat (refine And.intro ?_ ?_; focus (((repeat' apply And.intro) <;> first | exact rowsOf_w _ | omega | (simp only [List.length_append, rowsOf_len, List.length_cons, List.length_nil, marks_len, List.length_take, List.length_drop, List.length_set]; omega) | exact ⟨_, rfl⟩ | (refine ⟨_, rfl, ?_⟩; omega) | (refine ⟨_, rfl, ?_⟩; simp only [List.length_append, rowsOf_len, List.length_cons, List.length_nil, marks_len, List.length_take, List.length_drop, List.length_set]; omega) | kernel_rfl | (simp; done)); done)))
            subst he
            rw [pktV_n hB ho]
            exact ⟨_, rfl, rfl, rfl⟩
        · rw [if_neg hN0]
          (repeat (refine And.intro ?_ ?_; focus (((repeat' apply And.intro) <;> first | exact rowsOf_w _ | omega | (simp only [List.length_append, rowsOf_len, List.length_cons, List.length_nil, marks_len, List.length_take, List.length_drop, List.length_set]; omega) | exact ⟨_, rfl⟩ | (refine ⟨_, rfl, ?_⟩; omega) | (refine ⟨_, rfl, ?_⟩; simp only [List.length_append, rowsOf_len, List.length_cons, List.length_nil, marks_len, List.length_take, List.length_drop, List.length_set]; omega) | kernel_rfl | (simp; done)); done)))
          have hB : pkBase xs p = pkS xs p (pickV xs (q + 1) 20) false false (q + 1 + 1) := by rw [pkBase, ← hq, if_neg h4, if_pos h41, if_neg (by omega)]
          by_cases ho : (decide (0 < n) && pickV xs (q + 1 + 1) n == n - 1) = true
          · rw [if_pos ho]
            (repeat (refine And.intro ?_ ?_; focus (((repeat' apply And.intro) <;> first | exact rowsOf_w _ | omega | (simp only [List.length_append, rowsOf_len, List.length_cons, List.length_nil, marks_len, List.length_take, List.length_drop, List.length_set]; omega) | exact ⟨_, rfl⟩ | (refine ⟨_, rfl, ?_⟩; omega) | (refine ⟨_, rfl, ?_⟩; simp only [List.length_append, rowsOf_len, List.length_cons, List.length_nil, marks_len, List.length_take, List.length_drop, List.length_set]; omega) | kernel_rfl | (simp; done)); done)))
            by_cases h0 : pickV xs (q + 1 + 1 + e) 5 = 0
            · rw [if_pos h0]
              (repeat (refine And.intro ?_ ?_; focus (((repeat' apply And.intro) <;> first | exact rowsOf_w _ | omega | (simp only [List.length_append, rowsOf_len, List.length_cons, List.length_nil, marks_len, List.length_take, List.length_drop, List.length_set]; omega) | exact ⟨_, rfl⟩ | (refine ⟨_, rfl, ?_⟩; omega) | (refine ⟨_, rfl, ?_⟩; simp only [List.length_append, rowsOf_len, List.length_cons, List.length_nil, marks_len, List.length_take, List.length_drop, List.length_set]; omega) | kernel_rfl | (simp; done)); done)))
              subst he
              rw [pktV_0 hB ho h0]
              exact ⟨_, rfl, rfl, rfl⟩
            · rw [if_neg h0]
              by_cases h1 : pickV xs (q + 1 + 1 + e) 5 = 1
              · rw [if_pos h1]
                (repeat (refine And.intro ?_ ?_; focus (((repeat' apply And.intro) <;> first | exact rowsOf_w _ | omega | (simp only [List.length_append, rowsOf_len, List.length_cons, List.length_nil, marks_len, List.length_take, List.length_drop, List.length_set]; omega) | exact ⟨_, rfl⟩ | (refine ⟨_, rfl, ?_⟩; omega) | (refine ⟨_, rfl, ?_⟩; simp only [List.length_append, rowsOf_len, List.length_cons, List.length_nil, marks_len, List.length_take, List.length_drop, List.length_set]; omega) | kernel_rfl | (simp; done)); done)))
                subst he
                rw [pktV_1 hB ho h0 h1]
                exact ⟨_, rfl, rfl, rfl⟩
              · rw [if_neg h1]
                by_cases h2 : pickV xs (q + 1 + 1 + e) 5 = 2
                · rw [if_pos h2]
                  (repeat (refine And.intro ?_ ?_; focus (((repeat' apply And.intro) <;> first | exact rowsOf_w _ | omega | (simp only [List.length_append, rowsOf_len, List.length_cons, List.length_nil, marks_len, List.length_take, List.length_drop, List.length_set]; omega) | exact ⟨_, rfl⟩ | (refine ⟨_, rfl, ?_⟩; omega) | (refine ⟨_, rfl, ?_⟩; simp only [List.length_append, rowsOf_len, List.length_cons, List.length_nil, marks_len, List.length_take, List.length_drop, List.length_set]; omega) | kernel_rfl | (simp; done)); done)))
                  subst he
                  rw [pktV_2 hB ho h0 h1 h2]
                  exact ⟨_, rfl, rfl, rfl⟩
                · rw [if_neg h2]
                  by_cases h3 : pickV xs (q + 1 + 1 + e) 5 = 3
                  · rw [if_pos h3]
                    (repeat (refine And.intro ?_ ?_; focus (((repeat' apply And.intro) <;> first | exact rowsOf_w _ | omega | (simp only [List.length_append, rowsOf_len, List.length_cons, List.length_nil, marks_len, List.length_take, List.length_drop, List.length_set]; omega) | exact ⟨_, rfl⟩ | (refine ⟨_, rfl, ?_⟩; omega) | (refine ⟨_, rfl, ?_⟩; simp only [List.length_append, rowsOf_len, List.length_cons, List.length_nil, marks_len, List.length_take, List.length_drop, List.length_set]; omega) | kernel_rfl | (simp; done)); done)))
                    subst he
                    rw [pktV_3 hB ho h0 h1 h2 h3]
                    exact ⟨_, rfl, rfl, rfl⟩
                  · rw [if_neg h3]
                    (repeat (refine And.intro ?_ ?_; focus (((repeat' apply And.intro) <;> first | exact rowsOf_w _ | omega | (simp only [List.length_append, rowsOf_len, List.length_cons, List.length_nil, marks_len, List.length_take, List.length_drop, List.length_set]; omega) | exact ⟨_, rfl⟩ | (refine ⟨_, rfl, ?_⟩; omega) | (refine ⟨_, rfl, ?_⟩; simp only [List.length_append, rowsOf_len, List.length_cons, List.length_nil, marks_len, List.length_take, List.length_drop, List.length_set]; omega) | kernel_rfl | (simp; done)); done)))
                    subst he
                    rw [pktV_4 hB ho h0 h1 h2 h3]
                    exact ⟨_, rfl, rfl, rfl⟩
          · rw [if_neg ho]
            (repeat (refine And.intro ?_ ?_; focus (((repeat' apply And.intro) <;> first | exact rowsOf_w _ | omega | (simp only [List.length_append, rowsOf_len, List.length_cons, List.length_nil, marks_len, List.length_take, List.length_drop, List.length_set]; omega) | exact ⟨_, rfl⟩ | (refine ⟨_, rfl, ?_⟩; omega) | (refine ⟨_, rfl, ?_⟩; simp only [List.length_append, rowsOf_len, List.length_cons, List.length_nil, marks_len, List.length_take, List.length_drop, List.length_set]; omega) | kernel_rfl | (simp; done)); done)))
            subst he
            rw [pktV_n hB ho]
            exact ⟨_, rfl, rfl, rfl⟩
      · rw [if_neg h41]
        (repeat (refine And.intro ?_ ?_; focus (((repeat' apply And.intro) <;> first | exact rowsOf_w _ | omega | (simp only [List.length_append, rowsOf_len, List.length_cons, List.length_nil, marks_len, List.length_take, List.length_drop, List.length_set]; omega) | exact ⟨_, rfl⟩ | (refine ⟨_, rfl, ?_⟩; omega) | (refine ⟨_, rfl, ?_⟩; simp only [List.length_append, rowsOf_len, List.length_cons, List.length_nil, marks_len, List.length_take, List.length_drop, List.length_set]; omega) | kernel_rfl | (simp; done)); done)))
        have hB : pkBase xs p = pkS xs p 0 false false (q + 1) := by rw [pkBase, ← hq, if_neg h4, if_neg h41]
        by_cases ho : (decide (0 < n) && pickV xs (q + 1) n == n - 1) = true
        · rw [if_pos ho]
          (repeat (refine And.intro ?_ ?_; focus (((repeat' apply And.intro) <;> first | exact rowsOf_w _ | omega | (simp only [List.length_append, rowsOf_len, List.length_cons, List.length_nil, marks_len, List.length_take, List.length_drop, List.length_set]; omega) | exact ⟨_, rfl⟩ | (refine ⟨_, rfl, ?_⟩; omega) | (refine ⟨_, rfl, ?_⟩; simp only [List.length_append, rowsOf_len, List.length_cons, List.length_nil, marks_len, List.length_take, List.length_drop, List.length_set]; omega) | kernel_rfl | (simp; done)); done)))
          by_cases h0 : pickV xs (q + 1 + e) 5 = 0
          · rw [if_pos h0]
            (repeat (refine And.intro ?_ ?_; focus (((repeat' apply And.intro) <;> first | exact rowsOf_w _ | omega | (simp only [List.length_append, rowsOf_len, List.length_cons, List.length_nil, marks_len, List.length_take, List.length_drop, List.length_set]; omega) | exact ⟨_, rfl⟩ | (refine ⟨_, rfl, ?_⟩; omega) | (refine ⟨_, rfl, ?_⟩; simp only [List.length_append, rowsOf_len, List.length_cons, List.length_nil, marks_len, List.length_take, List.length_drop, List.length_set]; omega) | kernel_rfl | (simp; done)); done)))
            subst he
            rw [pktV_0 hB ho h0]
            exact ⟨_, rfl, rfl, rfl⟩
          · rw [if_neg h0]
            by_cases h1 : pickV xs (q + 1 + e) 5 = 1
            · rw [if_pos h1]
              (repeat (refine And.intro ?_ ?_; focus (((repeat' apply And.intro) <;> first | exact rowsOf_w _ | omega | (simp only [List.length_append, rowsOf_len, List.length_cons, List.length_nil, marks_len, List.length_take, List.length_drop, List.length_set]; omega) | exact ⟨_, rfl⟩ | (refine ⟨_, rfl, ?_⟩; omega) | (refine ⟨_, rfl, ?_⟩; simp only [List.length_append, rowsOf_len, List.length_cons, List.length_nil, marks_len, List.length_take, List.length_drop, List.length_set]; omega) | kernel_rfl | (simp; done)); done)))
              subst he
              rw [pktV_1 hB ho h0 h1]
              exact ⟨_, rfl, rfl, rfl⟩
            · rw [if_neg h1]
              by_cases h2 : pickV xs (q + 1 + e) 5 = 2
              · rw [if_pos h2]
                (repeat (refine And.intro ?_ ?_; focus (((repeat' apply And.intro) <;> first | exact rowsOf_w _ | omega | (simp only [List.length_append, rowsOf_len, List.length_cons, List.length_nil, marks_len, List.length_take, List.length_drop, List.length_set]; omega) | exact ⟨_, rfl⟩ | (refine ⟨_, rfl, ?_⟩; omega) | (refine ⟨_, rfl, ?_⟩; simp only [List.length_append, rowsOf_len, List.length_cons, List.length_nil, marks_len, List.length_take, List.length_drop, List.length_set]; omega) | kernel_rfl | (simp; done)); done)))
                subst he
                rw [pktV_2 hB ho h0 h1 h2]
                exact ⟨_, rfl, rfl, rfl⟩
              · rw [if_neg h2]
                by_cases h3 : pickV xs (q + 1 + e) 5 = 3
                · rw [if_pos h3]
                  (repeat (refine And.intro ?_ ?_; focus (((repeat' apply And.intro) <;> first | exact rowsOf_w _ | omega | (simp only [List.length_append, rowsOf_len, List.length_cons, List.length_nil, marks_len, List.length_take, List.length_drop, List.length_set]; omega) | exact ⟨_, rfl⟩ | (refine ⟨_, rfl, ?_⟩; omega) | (refine ⟨_, rfl, ?_⟩; simp only [List.length_append, rowsOf_len, List.length_cons, List.length_nil, marks_len, List.length_take, List.length_drop, List.length_set]; omega) | kernel_rfl | (simp; done)); done)))
                  subst he
                  rw [pktV_3 hB ho h0 h1 h2 h3]
                  exact ⟨_, rfl, rfl, rfl⟩
                · rw [if_neg h3]
                  (repeat (refine And.intro ?_ ?_; focus (((repeat' apply And.intro) <;> first | exact rowsOf_w _ | omega | (simp only [List.length_append, rowsOf_len, List.length_cons, List.length_nil, marks_len, List.length_take, List.length_drop, List.length_set]; omega) | exact ⟨_, rfl⟩ | (refine ⟨_, rfl, ?_⟩; omega) | (refine ⟨_, rfl, ?_⟩; simp only [List.length_append, rowsOf_len, List.length_cons, List.length_nil, marks_len, List.length_take, List.length_drop, List.length_set]; omega) | kernel_rfl | (simp; done)); done)))
                  subst he
                  rw [pktV_4 hB ho h0 h1 h2 h3]
                  exact ⟨_, rfl, rfl, rfl⟩
        · rw [if_neg ho]
          (repeat (refine And.intro ?_ ?_; focus (((repeat' apply And.intro) <;> first | exact rowsOf_w _ | omega | (simp only [List.length_append, rowsOf_len, List.length_cons, List.length_nil, marks_len, List.length_take, List.length_drop, List.length_set]; omega) | exact ⟨_, rfl⟩ | (refine ⟨_, rfl, ?_⟩; omega) | (refine ⟨_, rfl, ?_⟩; simp only [List.length_append, rowsOf_len, List.length_cons, List.length_nil, marks_len, List.length_take, List.length_drop, List.length_set]; omega) | kernel_rfl | (simp; done)); done)))
          subst he
          rw [pktV_n hB ho]
          exact ⟨_, rfl, rfl, rfl⟩
  · cases hg
end Go.Proofs.Ythbcoakimbpkgaa
