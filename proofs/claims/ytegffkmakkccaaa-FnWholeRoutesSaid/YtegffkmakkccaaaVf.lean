import Derived.Test.YtegffkmakkccaaaVb
import Derived.Test.YtegffkmakkccaaaR6
set_option linter.unusedVariables false
set_option linter.unusedSimpArgs false
namespace Go.Proofs.Ytegffkmakkccaaa
open Go.RowKit
set_option linter.unusedSimpArgs false
structure PkV where
  f : Int
  t : Int
  pr : Int
  h : Int
  i : Int
  a : Int
  m : Bool
  u : Bool
  d : List UInt8
  q : Int
def pkN (xs : List UInt8) (p : Int) : Nat := (pickV xs (p + 1 + 1 + 1 + 1 + 1) 12).toNat
def pkQ (xs : List UInt8) (p : Int) : Int := p + 1 + 1 + 1 + 1 + 1 + 1 + 2 * (pkN xs p : Int)
def pkS (xs : List UInt8) (p : Int) (a : Int) (m u : Bool) (q : Int) : PkV := ⟨pickV xs p 5, pickV xs (p + 1) 5, pickV xs (p + 1 + 1) 4, pickV xs (p + 1 + 1 + 1) 6, pickV xs (p + 1 + 1 + 1 + 1) 4, a, m, u, bytesV xs (p + 1 + 1 + 1 + 1 + 1 + 1) (pkN xs p), q⟩
def pkBase (xs : List UInt8) (p : Int) : PkV :=
  if pickV xs (pkQ xs p) 4 = 0 then pkS xs p 0 false true (pkQ xs p + 1)
  else if pickV xs (pkQ xs p) 4 = 1 then
    if 0 < pkN xs p then pkS xs p (pickV xs (pkQ xs p + 1) 20) (pickV xs (pkQ xs p + 1 + 1) 2 == 0) false (pkQ xs p + 1 + 1 + 1)
    else pkS xs p (pickV xs (pkQ xs p + 1) 20) false false (pkQ xs p + 1 + 1)
  else pkS xs p 0 false false (pkQ xs p + 1)
def pktE (xs : List UInt8) (b : PkV) (x : Int) : PkV :=
  if pickV xs x 5 = 0 then { b with t := IntKind.i64.wrap (65536 - IntKind.i64.wrap (pickV xs (x + 1) 2 * 65540)), q := x + 1 + 1 }
  else if pickV xs x 5 = 1 then { b with h := IntKind.i64.wrap (256 - IntKind.i64.wrap (pickV xs (x + 1) 2 * 300)), q := x + 1 + 1 }
  else if pickV xs x 5 = 2 then { b with d := List.replicate 49 0, q := x + 1 }
  else if pickV xs x 5 = 3 then { b with m := true, d := [], q := x + 1 }
  else { b with u := true, a := 3, q := x + 1 }
def pktO (xs : List UInt8) (b : PkV) (n : Int) : PkV :=
  if (decide (0 < n) && pickV xs b.q n == n - 1) = true then pktE xs b (b.q + oneIf n) else { b with q := b.q + oneIf n }
def pktV (xs : List UInt8) (p n : Int) : PkV := pktO xs (pkBase xs p) n
theorem pkN_le (xs : List UInt8) (p : Int) : pkN xs p ≤ 11 := by
  have := pickV_lt xs (p + 1 + 1 + 1 + 1 + 1) 12 (by omega)
  unfold pkN; omega
theorem pkBase_q (xs : List UInt8) (p : Int) : p ≤ (pkBase xs p).q ∧ (pkBase xs p).q < p + 40 ∧ (pkBase xs p).d.length ≤ 11 := by
  have h := pkN_le xs p
  have hq : pkQ xs p = p + 1 + 1 + 1 + 1 + 1 + 1 + 2 * (pkN xs p : Int) := rfl
  unfold pkBase pkS
  split
  · dsimp only; rw [bytesV_len]; omega
  · split
    · split <;> (dsimp only; rw [bytesV_len]; omega)
    · dsimp only; rw [bytesV_len]; omega
theorem pktV_q (xs : List UInt8) (p n : Int) : p ≤ (pktV xs p n).q ∧ (pktV xs p n).q < p + 50 ∧ (pktV xs p n).d.length ≤ 49 := by
  have h := pkBase_q xs p
  have := oneIf_le n
  unfold pktV pktO
  split
  · unfold pktE
    repeat' split
    all_goals (dsimp only; first | omega | (rw [List.length_replicate]; omega) | (rw [List.length_nil]; omega))
  · dsimp only; omega
theorem pktV_n {xs : List UInt8} {p n : Int} {b : PkV} (hB : pkBase xs p = b) (ho : ¬ (decide (0 < n) && pickV xs b.q n == n - 1) = true) : pktV xs p n = { b with q := b.q + oneIf n } := by
  rw [pktV, hB, pktO, if_neg ho]
theorem pktV_0 {xs : List UInt8} {p n : Int} {b : PkV} (hB : pkBase xs p = b) (ho : (decide (0 < n) && pickV xs b.q n == n - 1) = true) (h0 : pickV xs (b.q + oneIf n) 5 = 0) : pktV xs p n = { b with t := IntKind.i64.wrap (65536 - IntKind.i64.wrap (pickV xs (b.q + oneIf n + 1) 2 * 65540)), q := b.q + oneIf n + 1 + 1 } := by
  rw [pktV, hB, pktO, if_pos ho, pktE, if_pos h0]
theorem pktV_1 {xs : List UInt8} {p n : Int} {b : PkV} (hB : pkBase xs p = b) (ho : (decide (0 < n) && pickV xs b.q n == n - 1) = true) (h0 : ¬ pickV xs (b.q + oneIf n) 5 = 0) (h1 : pickV xs (b.q + oneIf n) 5 = 1) : pktV xs p n = { b with h := IntKind.i64.wrap (256 - IntKind.i64.wrap (pickV xs (b.q + oneIf n + 1) 2 * 300)), q := b.q + oneIf n + 1 + 1 } := by
  rw [pktV, hB, pktO, if_pos ho, pktE, if_neg h0, if_pos h1]
theorem pktV_2 {xs : List UInt8} {p n : Int} {b : PkV} (hB : pkBase xs p = b) (ho : (decide (0 < n) && pickV xs b.q n == n - 1) = true) (h0 : ¬ pickV xs (b.q + oneIf n) 5 = 0) (h1 : ¬ pickV xs (b.q + oneIf n) 5 = 1) (h2 : pickV xs (b.q + oneIf n) 5 = 2) : pktV xs p n = { b with d := List.replicate 49 0, q := b.q + oneIf n + 1 } := by
  rw [pktV, hB, pktO, if_pos ho, pktE, if_neg h0, if_neg h1, if_pos h2]
theorem pktV_3 {xs : List UInt8} {p n : Int} {b : PkV} (hB : pkBase xs p = b) (ho : (decide (0 < n) && pickV xs b.q n == n - 1) = true) (h0 : ¬ pickV xs (b.q + oneIf n) 5 = 0) (h1 : ¬ pickV xs (b.q + oneIf n) 5 = 1) (h2 : ¬ pickV xs (b.q + oneIf n) 5 = 2) (h3 : pickV xs (b.q + oneIf n) 5 = 3) : pktV xs p n = { b with m := true, d := [], q := b.q + oneIf n + 1 } := by
  rw [pktV, hB, pktO, if_pos ho, pktE, if_neg h0, if_neg h1, if_neg h2, if_pos h3]
theorem pktV_4 {xs : List UInt8} {p n : Int} {b : PkV} (hB : pkBase xs p = b) (ho : (decide (0 < n) && pickV xs b.q n == n - 1) = true) (h0 : ¬ pickV xs (b.q + oneIf n) 5 = 0) (h1 : ¬ pickV xs (b.q + oneIf n) 5 = 1) (h2 : ¬ pickV xs (b.q + oneIf n) 5 = 2) (h3 : ¬ pickV xs (b.q + oneIf n) 5 = 3) : pktV xs p n = { b with u := true, a := 3, q := b.q + oneIf n + 1 } := by
  rw [pktV, hB, pktO, if_pos ho, pktE, if_neg h0, if_neg h1, if_neg h2, if_neg h3]
def g_packet : OC := fun args B0 => match args, B0 with
  | [.ptr r o, .v (.int .i64 n)], [.var T [.l 1 rows, .v (.int .i64 p)]] => some (T = 148 ∧ r = 0 ∧ o = 0 ∧ (∃ xs, rows = rowsOfBytes xs ∧ xs.length ≤ 2000) ∧ 0 ≤ p ∧ p < 100000000000 ∧ 0 ≤ n ∧ n ≤ 1000000,
      .agg [.v (.int .i64 (pktV (bytesOfRows rows) p n).f), .v (.int .i64 (pktV (bytesOfRows rows) p n).t), .v (.int .i64 (pktV (bytesOfRows rows) p n).pr), .v (.int .i64 (pktV (bytesOfRows rows) p n).h), .v (.int .i64 (pktV (bytesOfRows rows) p n).i), .v (.int .i64 (pktV (bytesOfRows rows) p n).a), .v (.bool (pktV (bytesOfRows rows) p n).m), .v (.bool (pktV (bytesOfRows rows) p n).u), .l 1 (rowsOfBytes (pktV (bytesOfRows rows) p n).d)], [.var T [.l 1 rows, .v (.int .i64 (pktV (bytesOfRows rows) p n).q)]], [])
  | _, _ => none
set_option maxHeartbeats 0 in
set_option maxRecDepth 100000 in
theorem packet_ok : OwnOk Try.prog 114 g_packet := by
  refine OwnOk.of_vcL (G := reads) reads_ok mixed Try.func114 (by kernel_rfl) rfl ?_
  intro args B0 cnd r B1 bs hg hc hlive
  unfold g_packet at hg
  split at hg
  · rename_i r o n T rows p
    cases hg
    obtain ⟨rfl, rfl, rfl, ⟨xs, rfl, hl⟩, hp0, hp1, hn0, hn1⟩ := hc
    rw [bytesOf_rows]
    refine ⟨⟨by simp [likeBs, likeB], rfl, fun b hb => by simp at hb; subst hb; exact ⟨_, _, rfl, rfl⟩, by simp [AV.ids, AV.ids.idsL]⟩, _, rfl, fun w Z s vs h => h, ?_⟩
    clear hlive
    have hx : (∃ ys, rowsOfBytes xs = rowsOfBytes ys ∧ ys.length ≤ 2000) = True := eq_true ⟨xs, rfl, hl⟩
    have k9 := pickV_nonneg xs (p + 1 + 1 + 1 + 1 + 1) 12 (by omega)
    have k9' := pickV_lt xs (p + 1 + 1 + 1 + 1 + 1) 12 (by omega)
    obtain ⟨q, hq⟩ : ∃ q, q = pkQ xs p := ⟨_, rfl⟩
    obtain ⟨N, hN⟩ : ∃ N, N = pkN xs p := ⟨_, rfl⟩
    obtain ⟨e, he⟩ : ∃ e, e = oneIf n := ⟨_, rfl⟩
    have be := oneIf_le n
    rw [← he] at be
    have hN' : (pickV xs (p + 1 + 1 + 1 + 1 + 1) 12).toNat = N := hN.symm
    have hq' : p + 1 + 1 + 1 + 1 + 1 + 1 + 2 * (N : Int) = q := by rw [hN, hq]; rfl
    have he' : (if 0 < n then (1 : Int) else 0) = e := he.symm
    have bq : p ≤ q ∧ q < p + 30 := by rw [← hq']; omega
    have bN : N ≤ 11 := by omega
    simp (maxSteps := 3000000) only [Try.f114, reads, g_pick, g_odd, g_bytes, bytesOf_rows, rowsOf_len, bytesV_len, tYs, evL, implies_true, oMin, oCopy, oBin, oUn, oLoadKid, oStoreTree, oField, oExtract, oNil, oSliceQ, oLoadRow, takeCells, TS.atRow, TS.ex, treeMode, AV.isOwn, TK.isSl, nilTk, nilsB, oLenQ, oLen, nodupB, treeOf, kidAbs, kidRows, TK.isCell, D.toL, oLoad, oStore, oMake, oIndexAddr, ↓reduceIte, reduceCtorEq, Nat.reduceBEq, Nat.reduceAdd, Nat.reduceMul, Nat.reduceLT, Nat.reduceSub, Nat.reduceLeDiff, Nat.reduceEqDiff, Nat.reduceBneDiff, Int.reduceToNat, decide_eq_true_eq, decide_eq_false_iff_not, beq_iff_eq, Int.toNat_natCast, doneL_ret, doneL_normal, hx, hN', hq', he']
    (repeat (refine And.intro ?_ ?_; focus (((repeat' apply And.intro) <;> first | exact rowsOf_w _ | omega | (simp only [List.length_append, rowsOf_len, List.length_cons, List.length_nil, marks_len, List.length_take, List.length_drop, List.length_set]; omega) | exact ⟨_, rfl⟩ | (refine ⟨_, rfl, ?_⟩; omega) | (refine ⟨_, rfl, ?_⟩; simp only [List.length_append, rowsOf_len, List.length_cons, List.length_nil, marks_len, List.length_take, List.length_drop, List.length_set]; omega) | kernel_rfl | (simp; done)); done)))
    clear hq' he' hN' k9 k9'
    subst hN
    by_cases h4 : pickV xs q 4 = 0
    · rw [if_pos h4]
      (repeat (refine And.intro ?_ ?_; focus (((repeat' apply And.intro) <;> first | exact rowsOf_w _ | omega | (simp only [List.length_append, rowsOf_len, List.length_cons, List.length_nil, marks_len, List.length_take, List.length_drop, List.length_set]; omega) | exact ⟨_, rfl⟩ | (refine ⟨_, rfl, ?_⟩; omega) | (refine ⟨_, rfl, ?_⟩; simp only [List.length_append, rowsOf_len, List.length_cons, List.length_nil, marks_len, List.length_take, List.length_drop, List.length_set]; omega) | kernel_rfl | (simp; done)); done)))
      have hB : pkBase xs p = pkS xs p 0 false true (q + 1) := by rw [pkBase, ← hq, if_pos h4]
      by_cases ho : (decide (0 < n) && pickV xs (q + 1) n == n - 1) = true
      · rw [if_pos ho]
        (repeat (refine And.intro ?_ ?_; focus (((repeat' apply And.intro) <;> first | exact rowsOf_w _ | omega | (simp only [List.length_append, rowsOf_len, List.length_cons, List.length_nil, marks_len, List.length_take, List.length_drop, List.length_set]; omega) | exact ⟨_, rfl⟩ | (refine ⟨_, rfl, ?_⟩; omega) | (refine ⟨_, rfl, ?_⟩; simp only [List.length_append, rowsOf_len, List.length_cons, List.length_nil, marks_len, List.length_take, List.length_drop, List.length_set]; omega) | kernel_rfl | (simp; done)); done)))
        by_cases h0 : pickV xs (q + 1 + e) 5 = 0
        · rw [if_pos h0]
          (repeat (refine And.intro ?_ ?_; focus (((repeat' apply And.intro) <;> first | exact rowsOf_w _ | omega | (simp only [List.length_append, rowsOf_len, List.length_cons, List.length_nil, marks_len, List.length_take, List.length_drop, List.length_set]; omega) | exact ⟨_, rfl⟩ | (refine ⟨_, rfl, ?_⟩; omega) | (refine ⟨_, rfl, ?_⟩; simp only [List.length_append, rowsOf_len, List.length_cons, List.length_nil, marks_len, List.length_take, List.length_drop, List.length_set]; omega) | kernel_rfl | (simp; done)); done)))
          subst he
          rw [pktV_0 hB ho h0]
          exact ⟨_, rfl, rfl, rfl⟩
        · rw [if_neg h0]
          by_cases h1 : pickV xs (q + 1 + e) 5 = 1
          · rw [if_pos h1]
            (repeat (refine And.intro ?_ ?_; focus (((repeat' apply And.intro) <;> first | exact rowsOf_w _ | omega | (simp only [List.length_append, rowsOf_len, List.length_cons, List.length_nil, marks_len, List.length_take, List.length_drop, List.length_set]; omega) | exact ⟨_, rfl⟩ | (refine ⟨_, rfl, ?_⟩; omega) | (refine ⟨_, rfl, ?_⟩; simp only [List.length_append, rowsOf_len, List.length_cons, List.length_nil, marks_len, List.length_take, List.length_drop, List.length_set]; omega) | kernel_rfl | (simp; done)); done)))
            subst he
            rw [pktV_1 hB ho h0 h1]
            exact ⟨_, rfl, rfl, rfl⟩
          · rw [if_neg h1]
            by_cases h2 : pickV xs (q + 1 + e) 5 = 2
            · rw [if_pos h2]
              (repeat (refine And.intro ?_ ?_; focus (((repeat' apply And.intro) <;> first | exact rowsOf_w _ | omega | (simp only [List.length_append, rowsOf_len, List.length_cons, List.length_nil, marks_len, List.length_take, List.length_drop, List.length_set]; omega) | exact ⟨_, rfl⟩ | (refine ⟨_, rfl, ?_⟩; omega) | (refine ⟨_, rfl, ?_⟩; simp only [List.length_append, rowsOf_len, List.length_cons, List.length_nil, marks_len, List.length_take, List.length_drop, List.length_set]; omega) | kernel_rfl | (simp; done)); done)))
              subst he
              rw [pktV_2 hB ho h0 h1 h2]
              exact ⟨_, rfl, rfl, rfl⟩
            · rw [if_neg h2]
              by_cases h3 : pickV xs (q + 1 + e) 5 = 3
              · rw [if_pos h3]
                (repeat (refine And.intro ?_ ?_; focus (((repeat' apply And.intro) <;> first | exact rowsOf_w _ | omega | (simp only [List.length_append, rowsOf_len, List.length_cons, List.length_nil, marks_len, List.length_take, List.length_drop, List.length_set]; omega) | exact ⟨_, rfl⟩ | (refine ⟨_, rfl, ?_⟩; omega) | (refine ⟨_, rfl, ?_⟩; simp only [List.length_append, rowsOf_len, List.length_cons, List.length_nil, marks_len, List.length_take, List.length_drop, List.length_set]; omega) | kernel_rfl | (simp; done)); done)))
                subst he
                rw [pktV_3 hB ho h0 h1 h2 h3]
                exact ⟨_, rfl, rfl, rfl⟩
              · rw [if_neg h3]
                (repeat (refine And.intro ?_ ?_; focus (((repeat' apply And.intro) <;> first | exact rowsOf_w _ | omega | (simp only [List.length_append, rowsOf_len, List.length_cons, List.length_nil, marks_len, List.length_take, List.length_drop, List.length_set]; omega) | exact ⟨_, rfl⟩ | (refine ⟨_, rfl, ?_⟩; omega) | (refine ⟨_, rfl, ?_⟩; simp only [List.length_append, rowsOf_len, List.length_cons, List.length_nil, marks_len, List.length_take, List.length_drop, List.length_set]; omega) | kernel_rfl | (simp; done)); done)))
                subst he
                rw [pktV_4 hB ho h0 h1 h2 h3]
                exact ⟨_, rfl, rfl, rfl⟩
      · rw [if_neg ho]
        (repeat (refine And.intro ?_ ?_; focus (((repeat' apply And.intro) <;> first | exact rowsOf_w _ | omega | (simp only [List.length_append, rowsOf_len, List.length_cons, List.length_nil, marks_len, List.length_take, List.length_drop, List.length_set]; omega) | exact ⟨_, rfl⟩ | (refine ⟨_, rfl, ?_⟩; omega) | (refine ⟨_, rfl, ?_⟩; simp only [List.length_append, rowsOf_len, List.length_cons, List.length_nil, marks_len, List.length_take, List.length_drop, List.length_set]; omega) | kernel_rfl | (simp; done)); done)))
        subst he
        rw [pktV_n hB ho]
        exact ⟨_, rfl, rfl, rfl⟩
    · rw [if_neg h4]
      by_cases h41 : pickV xs q 4 = 1
      · rw [if_pos h41]
        (repeat (refine And.intro ?_ ?_; focus (((repeat' apply And.intro) <;> first | exact rowsOf_w _ | omega | (simp only [List.length_append, rowsOf_len, List.length_cons, List.length_nil, marks_len, List.length_take, List.length_drop, List.length_set]; omega) | exact ⟨_, rfl⟩ | (refine ⟨_, rfl, ?_⟩; omega) | (refine ⟨_, rfl, ?_⟩; simp only [List.length_append, rowsOf_len, List.length_cons, List.length_nil, marks_len, List.length_take, List.length_drop, List.length_set]; omega) | kernel_rfl | (simp; done)); done)))
        by_cases hN0 : (pkN xs p : Int) > 0
        · rw [if_pos hN0]
          (repeat (refine And.intro ?_ ?_; focus (((repeat' apply And.intro) <;> first | exact rowsOf_w _ | omega | (simp only [List.length_append, rowsOf_len, List.length_cons, List.length_nil, marks_len, List.length_take, List.length_drop, List.length_set]; omega) | exact ⟨_, rfl⟩ | (refine ⟨_, rfl, ?_⟩; omega) | (refine ⟨_, rfl, ?_⟩; simp only [List.length_append, rowsOf_len, List.length_cons, List.length_nil, marks_len, List.length_take, List.length_drop, List.length_set]; omega) | kernel_rfl | (simp; done)); done)))
          have hB : pkBase xs p = pkS xs p (pickV xs (q + 1) 20) (pickV xs (q + 1 + 1) 2 == 0) false (q + 1 + 1 + 1) := by rw [pkBase, ← hq, if_neg h4, if_pos h41, if_pos (by omega)]
          by_cases ho : (decide (0 < n) && pickV xs (q + 1 + 1 + 1) n == n - 1) = true
          · rw [if_pos ho]
            (repeat (refine And.intro ?_ ?_; focus (((repeat' apply And.intro) <;> first | exact rowsOf_w _ | omega | (simp only [List.length_append, rowsOf_len, List.length_cons, List.length_nil, marks_len, List.length_take, List.length_drop, List.length_set]; omega) | exact ⟨_, rfl⟩ | (refine ⟨_, rfl, ?_⟩; omega) | (refine ⟨_, rfl, ?_⟩; simp only [List.length_append, rowsOf_len, List.length_cons, List.length_nil, marks_len, List.length_take, List.length_drop, List.length_set]; omega) | kernel_rfl | (simp; done)); done)))
            by_cases h0 : pickV xs (q + 1 + 1 + 1 + e) 5 = 0
            · rw [if_pos h0]
              (repeat (refine And.intro ?_ ?_; focus (((repeat' apply And.intro) <;> first | exact rowsOf_w _ | omega | (simp only [List.length_append, rowsOf_len, List.length_cons, List.length_nil, marks_len, List.length_take, List.length_drop, List.length_set]; omega) | exact ⟨_, rfl⟩ | (refine ⟨_, rfl, ?_⟩; omega) | (refine ⟨_, rfl, ?_⟩; simp only [List.length_append, rowsOf_len, List.length_cons, List.length_nil, marks_len, List.length_take, List.length_drop, List.length_set]; omega) | kernel_rfl | (simp; done)); done)))
              subst he
              rw [pktV_0 hB ho h0]
              exact ⟨_, rfl, rfl, rfl⟩
            · rw [if_neg h0]
              by_cases h1 : pickV xs (q + 1 + 1 + 1 + e) 5 = 1
              · rw [if_pos h1]
                (repeat (refine And.intro ?_ ?_; focus (((repeat' apply And.intro) <;> first | exact rowsOf_w _ | omega | (simp only [List.length_append, rowsOf_len, List.length_cons, List.length_nil, marks_len, List.length_take, List.length_drop, List.length_set]; omega) | exact ⟨_, rfl⟩ | (refine ⟨_, rfl, ?_⟩; omega) | (refine ⟨_, rfl, ?_⟩; simp only [List.length_append, rowsOf_len, List.length_cons, List.length_nil, marks_len, List.length_take, List.length_drop, List.length_set]; omega) | kernel_rfl | (simp; done)); done)))
                subst he
                rw [pktV_1 hB ho h0 h1]
                exact ⟨_, rfl, rfl, rfl⟩
              · rw [if_neg h1]
                by_cases h2 : pickV xs (q + 1 + 1 + 1 + e) 5 = 2
                · rw [if_pos h2]
                  (repeat (refine And.intro ?_ ?_; focus (((repeat' apply And.intro) <;> first | exact rowsOf_w _ | omega | (simp only [List.length_append, rowsOf_len, List.length_cons, List.length_nil, marks_len, List.length_take, List.length_drop, List.length_set]; omega) | exact ⟨_, rfl⟩ | (refine ⟨_, rfl, ?_⟩; omega) | (refine ⟨_, rfl, ?_⟩; simp only [List.length_append, rowsOf_len, List.length_cons, List.length_nil, marks_len, List.length_take, List.length_drop, List.length_set]; omega) | kernel_rfl | (simp; done)); done)))
                  subst he
                  rw [pktV_2 hB ho h0 h1 h2]
                  exact ⟨_, rfl, rfl, rfl⟩
                · rw [if_neg h2]
                  by_cases h3 : pickV xs (q + 1 + 1 + 1 + e) 5 = 3
                  · rw [if_pos h3]
                    (repeat (refine And.intro ?_ ?_; focus (((repeat' apply And.intro) <;> first | exact rowsOf_w _ | omega | (simp only [List.length_append, rowsOf_len, List.length_cons, List.length_nil, marks_len, List.length_take, List.length_drop, List.length_set]; omega) | exact ⟨_, rfl⟩ | (refine ⟨_, rfl, ?_⟩; omega) | (refine ⟨_, rfl, ?_⟩; simp only [List.length_append, rowsOf_len, List.length_cons, List.length_nil, marks_len, List.length_take, List.length_drop, List.length_set]; omega) | kernel_rfl | (simp; done)); done)))
                    subst he
                    rw [pktV_3 hB ho h0 h1 h2 h3]
                    exact ⟨_, rfl, rfl, rfl⟩
                  · rw [if_neg h3]
                    (repeat (refine And.intro ?_ ?_; focus (((repeat' apply And.intro) <;> first | exact rowsOf_w _ | omega | (simp only [List.length_append, rowsOf_len, List.length_cons, List.length_nil, marks_len, List.length_take, List.length_drop, List.length_set]; omega) | exact ⟨_, rfl⟩ | (refine ⟨_, rfl, ?_⟩; omega) | (refine ⟨_, rfl, ?_⟩; simp only [List.length_append, rowsOf_len, List.length_cons, List.length_nil, marks_len, List.length_take, List.length_drop, List.length_set]; omega) | kernel_rfl | (simp; done)); done)))
                    subst he
                    rw [pktV_4 hB ho h0 h1 h2 h3]
                    exact ⟨_, rfl, rfl, rfl⟩
          · rw [if_neg ho]
            (repeat (refine And.intro ?_ ?_; focus (((repeat' apply And.intro) <;> first | exact rowsOf_w _ | omega | (simp only [List.length_append, rowsOf_len, List.length_cons, List.length_nil, marks_len, List.length_take, List.length_drop, List.length_set]; omega) | exact ⟨_, rfl⟩ | (refine ⟨_, rfl, ?_⟩; omega) | (refine ⟨_, rfl, ?_⟩; simp only [List.length_append, rowsOf_len, List.length_cons, List.length_nil, marks_len, List.length_take, List.length_drop, List.length_set]; omega) | kernel_rfl | (simp; done)); done)))
            subst he
            rw [pktV_n hB ho]
            exact ⟨_, rfl, rfl, rfl⟩
        · rw [if_neg hN0]
          (repeat (refine And.intro ?_ ?_; focus (((repeat' apply And.intro) <;> first | exact rowsOf_w _ | omega | (simp only [List.length_append, rowsOf_len, List.length_cons, List.length_nil, marks_len, List.length_take, List.length_drop, List.length_set]; omega) | exact ⟨_, rfl⟩ | (refine ⟨_, rfl, ?_⟩; omega) | (refine ⟨_, rfl, ?_⟩; simp only [List.length_append, rowsOf_len, List.length_cons, List.length_nil, marks_len, List.length_take, List.length_drop, List.length_set]; omega) | kernel_rfl | (simp; done)); done)))
          have hB : pkBase xs p = pkS xs p (pickV xs (q + 1) 20) false false (q + 1 + 1) := by rw [pkBase, ← hq, if_neg h4, if_pos h41, if_neg (by omega)]
          by_cases ho : (decide (0 < n) && pickV xs (q + 1 + 1) n == n - 1) = true
          · rw [if_pos ho]
            (repeat (refine And.intro ?_ ?_; focus (((repeat' apply And.intro) <;> first | exact rowsOf_w _ | omega | (simp only [List.length_append, rowsOf_len, List.length_cons, List.length_nil, marks_len, List.length_take, List.length_drop, List.length_set]; omega) | exact ⟨_, rfl⟩ | (refine ⟨_, rfl, ?_⟩; omega) | (refine ⟨_, rfl, ?_⟩; simp only [List.length_append, rowsOf_len, List.length_cons, List.length_nil, marks_len, List.length_take, List.length_drop, List.length_set]; omega) | kernel_rfl | (simp; done)); done)))
            by_cases h0 : pickV xs (q + 1 + 1 + e) 5 = 0
            · rw [if_pos h0]
              (repeat (refine And.intro ?_ ?_; focus (((repeat' apply And.intro) <;> first | exact rowsOf_w _ | omega | (simp only [List.length_append, rowsOf_len, List.length_cons, List.length_nil, marks_len, List.length_take, List.length_drop, List.length_set]; omega) | exact ⟨_, rfl⟩ | (refine ⟨_, rfl, ?_⟩; omega) | (refine ⟨_, rfl, ?_⟩; simp only [List.length_append, rowsOf_len, List.length_cons, List.length_nil, marks_len, List.length_take, List.length_drop, List.length_set]; omega) | kernel_rfl | (simp; done)); done)))
              subst he
              rw [pktV_0 hB ho h0]
              exact ⟨_, rfl, rfl, rfl⟩
            · rw [if_neg h0]
              by_cases h1 : pickV xs (q + 1 + 1 + e) 5 = 1
              · rw [if_pos h1]
                (repeat (refine And.intro ?_ ?_; focus (((repeat' apply And.intro) <;> first | exact rowsOf_w _ | omega | (simp only [List.length_append, rowsOf_len, List.length_cons, List.length_nil, marks_len, List.length_take, List.length_drop, List.length_set]; omega) | exact ⟨_, rfl⟩ | (refine ⟨_, rfl, ?_⟩; omega) | (refine ⟨_, rfl, ?_⟩; simp only [List.length_append, rowsOf_len, List.length_cons, List.length_nil, marks_len, List.length_take, List.length_drop, List.length_set]; omega) | kernel_rfl | (simp; done)); done)))
                subst he
                rw [pktV_1 hB ho h0 h1]
                exact ⟨_, rfl, rfl, rfl⟩
              · rw [if_neg h1]
                by_cases h2 : pickV xs (q + 1 + 1 + e) 5 = 2
                · rw [if_pos h2]
                  (repeat (refine And.intro ?_ ?_; focus (((repeat' apply And.intro) <;> first | exact rowsOf_w _ | omega | (simp only [List.length_append, rowsOf_len, List.length_cons, List.length_nil, marks_len, List.length_take, List.length_drop, List.length_set]; omega) | exact ⟨_, rfl⟩ | (refine ⟨_, rfl, ?_⟩; omega) | (refine ⟨_, rfl, ?_⟩; simp only [List.length_append, rowsOf_len, List.length_cons, List.length_nil, marks_len, List.length_take, List.length_drop, List.length_set]; omega) | kernel_rfl | (simp; done)); done)))
                  subst he
                  rw [pktV_2 hB ho h0 h1 h2]
                  exact ⟨_, rfl, rfl, rfl⟩
                · rw [if_neg h2]
                  by_cases h3 : pickV xs (q + 1 + 1 + e) 5 = 3
                  · rw [if_pos h3]
                    (repeat (refine And.intro ?_ ?_; focus (((repeat' apply And.intro) <;> first | exact rowsOf_w _ | omega | (simp only [List.length_append, rowsOf_len, List.length_cons, List.length_nil, marks_len, List.length_take, List.length_drop, List.length_set]; omega) | exact ⟨_, rfl⟩ | (refine ⟨_, rfl, ?_⟩; omega) | (refine ⟨_, rfl, ?_⟩; simp only [List.length_append, rowsOf_len, List.length_cons, List.length_nil, marks_len, List.length_take, List.length_drop, List.length_set]; omega) | kernel_rfl | (simp; done)); done)))
                    subst he
                    rw [pktV_3 hB ho h0 h1 h2 h3]
                    exact ⟨_, rfl, rfl, rfl⟩
                  · rw [if_neg h3]
                    (repeat (refine And.intro ?_ ?_; focus (((repeat' apply And.intro) <;> first | exact rowsOf_w _ | omega | (simp only [List.length_append, rowsOf_len, List.length_cons, List.length_nil, marks_len, List.length_take, List.length_drop, List.length_set]; omega) | exact ⟨_, rfl⟩ | (refine ⟨_, rfl, ?_⟩; omega) | (refine ⟨_, rfl, ?_⟩; simp only [List.length_append, rowsOf_len, List.length_cons, List.length_nil, marks_len, List.length_take, List.length_drop, List.length_set]; omega) | kernel_rfl | (simp; done)); done)))
                    subst he
                    rw [pktV_4 hB ho h0 h1 h2 h3]
                    exact ⟨_, rfl, rfl, rfl⟩
          · rw [if_neg ho]
            (repeat (refine And.intro ?_ ?_; focus (((repeat' apply And.intro) <;> first | exact rowsOf_w _ | omega | (simp only [List.length_append, rowsOf_len, List.length_cons, List.length_nil, marks_len, List.length_take, List.length_drop, List.length_set]; omega) | exact ⟨_, rfl⟩ | (refine ⟨_, rfl, ?_⟩; omega) | (refine ⟨_, rfl, ?_⟩; simp only [List.length_append, rowsOf_len, List.length_cons, List.length_nil, marks_len, List.length_take, List.length_drop, List.length_set]; omega) | kernel_rfl | (simp; done)); done)))
            subst he
            rw [pktV_n hB ho]
            exact ⟨_, rfl, rfl, rfl⟩
      · rw [if_neg h41]
        (repeat (refine And.intro ?_ ?_; focus (((repeat' apply And.intro) <;> first | exact rowsOf_w _ | omega | (simp only [List.length_append, rowsOf_len, List.length_cons, List.length_nil, marks_len, List.length_take, List.length_drop, List.length_set]; omega) | exact ⟨_, rfl⟩ | (refine ⟨_, rfl, ?_⟩; omega) | (refine ⟨_, rfl, ?_⟩; simp only [List.length_append, rowsOf_len, List.length_cons, List.length_nil, marks_len, List.length_take, List.length_drop, List.length_set]; omega) | kernel_rfl | (simp; done)); done)))
        have hB : pkBase xs p = pkS xs p 0 false false (q + 1) := by rw [pkBase, ← hq, if_neg h4, if_neg h41]
        by_cases ho : (decide (0 < n) && pickV xs (q + 1) n == n - 1) = true
        · rw [if_pos ho]
          (repeat (refine And.intro ?_ ?_; focus (((repeat' apply And.intro) <;> first | exact rowsOf_w _ | omega | (simp only [List.length_append, rowsOf_len, List.length_cons, List.length_nil, marks_len, List.length_take, List.length_drop, List.length_set]; omega) | exact ⟨_, rfl⟩ | (refine ⟨_, rfl, ?_⟩; omega) | (refine ⟨_, rfl, ?_⟩; simp only [List.length_append, rowsOf_len, List.length_cons, List.length_nil, marks_len, List.length_take, List.length_drop, List.length_set]; omega) | kernel_rfl | (simp; done)); done)))
          by_cases h0 : pickV xs (q + 1 + e) 5 = 0
          · rw [if_pos h0]
            (repeat (refine And.intro ?_ ?_; focus (((repeat' apply And.intro) <;> first | exact rowsOf_w _ | omega | (simp only [List.length_append, rowsOf_len, List.length_cons, List.length_nil, marks_len, List.length_take, List.length_drop, List.length_set]; omega) | exact ⟨_, rfl⟩ | (refine ⟨_, rfl, ?_⟩; omega) | (refine ⟨_, rfl, ?_⟩; simp only [List.length_append, rowsOf_len, List.length_cons, List.length_nil, marks_len, List.length_take, List.length_drop, List.length_set]; omega) | kernel_rfl | (simp; done)); done)))
            subst he
            rw [pktV_0 hB ho h0]
            exact ⟨_, rfl, rfl, rfl⟩
          · rw [if_neg h0]
            by_cases h1 : pickV xs (q + 1 + e) 5 = 1
            · rw [if_pos h1]
              (repeat (refine And.intro ?_ ?_; focus (((repeat' apply And.intro) <;> first | exact rowsOf_w _ | omega | (simp only [List.length_append, rowsOf_len, List.length_cons, List.length_nil, marks_len, List.length_take, List.length_drop, List.length_set]; omega) | exact ⟨_, rfl⟩ | (refine ⟨_, rfl, ?_⟩; omega) | (refine ⟨_, rfl, ?_⟩; simp only [List.length_append, rowsOf_len, List.length_cons, List.length_nil, marks_len, List.length_take, List.length_drop, List.length_set]; omega) | kernel_rfl | (simp; done)); done)))
              subst he
              rw [pktV_1 hB ho h0 h1]
              exact ⟨_, rfl, rfl, rfl⟩
            · rw [if_neg h1]
              by_cases h2 : pickV xs (q + 1 + e) 5 = 2
              · rw [if_pos h2]
                (repeat (refine And.intro ?_ ?_; focus (((repeat' apply And.intro) <;> first | exact rowsOf_w _ | omega | (simp only [List.length_append, rowsOf_len, List.length_cons, List.length_nil, marks_len, List.length_take, List.length_drop, List.length_set]; omega) | exact ⟨_, rfl⟩ | (refine ⟨_, rfl, ?_⟩; omega) | (refine ⟨_, rfl, ?_⟩; simp only [List.length_append, rowsOf_len, List.length_cons, List.length_nil, marks_len, List.length_take, List.length_drop, List.length_set]; omega) | kernel_rfl | (simp; done)); done)))
                subst he
                rw [pktV_2 hB ho h0 h1 h2]
                exact ⟨_, rfl, rfl, rfl⟩
              · rw [if_neg h2]
                by_cases h3 : pickV xs (q + 1 + e) 5 = 3
                · rw [if_pos h3]
                  (repeat (refine And.intro ?_ ?_; focus (((repeat' apply And.intro) <;> first | exact rowsOf_w _ | omega | (simp only [List.length_append, rowsOf_len, List.length_cons, List.length_nil, marks_len, List.length_take, List.length_drop, List.length_set]; omega) | exact ⟨_, rfl⟩ | (refine ⟨_, rfl, ?_⟩; omega) | (refine ⟨_, rfl, ?_⟩; simp only [List.length_append, rowsOf_len, List.length_cons, List.length_nil, marks_len, List.length_take, List.length_drop, List.length_set]; omega) | kernel_rfl | (simp; done)); done)))
                  subst he
                  rw [pktV_3 hB ho h0 h1 h2 h3]
                  exact ⟨_, rfl, rfl, rfl⟩
                · rw [if_neg h3]
                  (repeat (refine And.intro ?_ ?_; focus (((repeat' apply And.intro) <;> first | exact rowsOf_w _ | omega | (simp only [List.length_append, rowsOf_len, List.length_cons, List.length_nil, marks_len, List.length_take, List.length_drop, List.length_set]; omega) | exact ⟨_, rfl⟩ | (refine ⟨_, rfl, ?_⟩; omega) | (refine ⟨_, rfl, ?_⟩; simp only [List.length_append, rowsOf_len, List.length_cons, List.length_nil, marks_len, List.length_take, List.length_drop, List.length_set]; omega) | kernel_rfl | (simp; done)); done)))
                  subst he
                  rw [pktV_4 hB ho h0 h1 h2 h3]
                  exact ⟨_, rfl, rfl, rfl⟩
        · rw [if_neg ho]
          (repeat (refine And.intro ?_ ?_; focus (((repeat' apply And.intro) <;> first | exact rowsOf_w _ | omega | (simp only [List.length_append, rowsOf_len, List.length_cons, List.length_nil, marks_len, List.length_take, List.length_drop, List.length_set]; omega) | exact ⟨_, rfl⟩ | (refine ⟨_, rfl, ?_⟩; omega) | (refine ⟨_, rfl, ?_⟩; simp only [List.length_append, rowsOf_len, List.length_cons, List.length_nil, marks_len, List.length_take, List.length_drop, List.length_set]; omega) | kernel_rfl | (simp; done)); done)))
          subst he
          rw [pktV_n hB ho]
          exact ⟨_, rfl, rfl, rfl⟩
  · cases hg
end Go.Proofs.Ytegffkmakkccaaa
