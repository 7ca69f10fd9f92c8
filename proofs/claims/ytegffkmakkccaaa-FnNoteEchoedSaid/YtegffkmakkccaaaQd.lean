import Derived.Test.YtegffkmakkccaaaQb
import Derived.Test.YtegffkmakkccaaaVf
set_option linter.unusedVariables false
set_option linter.unusedSimpArgs false
namespace Go.Proofs.Ytegffkmakkccaaa
open Go.RowKit
set_option linter.unusedSimpArgs false
def wordV (xs : List UInt8) (p : Int) : Int := if pickV xs p 4 = 0 then pickV xs (p + 1) 3 else if pickV xs p 4 = 1 then 65535 - pickV xs (p + 1) 3 else pickV xs (p + 1) 256 * 256 + pickV xs (p + 1 + 1) 256
def wordQ (xs : List UInt8) (p : Int) : Int := if pickV xs p 4 = 0 then p + 1 + 1 else if pickV xs p 4 = 1 then p + 1 + 1 else p + 1 + 1 + 1
theorem wordQ_bd (xs : List UInt8) (p : Int) : p ≤ wordQ xs p ∧ wordQ xs p ≤ p + 3 := by
  unfold wordQ
  split
  · omega
  · split <;> omega
structure NtW where
  k : Int
  n : Int
  d : List UInt8
  q : Int
def noN (xs : List UInt8) (p : Int) : Nat := (pickV xs (wordQ xs (p + 1)) 6).toNat
def noBase (xs : List UInt8) (p : Int) : NtW := ⟨1 + pickV xs p 6, wordV xs (p + 1), bytesV xs (wordQ xs (p + 1) + 1) (noN xs p), wordQ xs (p + 1) + 1 + 2 * (noN xs p : Int)⟩
def noE (xs : List UInt8) (b : NtW) (x : Int) : NtW :=
  if pickV xs x 3 = 0 then { b with k := pickV xs (x + 1) 3 * 7, q := x + 1 + 1 }
  else if pickV xs x 3 = 1 then { b with n := 65536 - pickV xs (x + 1) 2 * 70000, q := x + 1 + 1 }
  else { b with d := List.replicate 21 0, q := x + 1 }
def noV (xs : List UInt8) (p n : Int) : NtW := if (decide (0 < n) && pickV xs (noBase xs p).q n == n - 1) = true then noE xs (noBase xs p) ((noBase xs p).q + oneIf n) else { noBase xs p with q := (noBase xs p).q + oneIf n }
theorem noN_le (xs : List UInt8) (p : Int) : noN xs p ≤ 5 := by
  have := pickV_lt xs (wordQ xs (p + 1)) 6 (by omega)
  unfold noN; omega
theorem noBase_q (xs : List UInt8) (p : Int) : p ≤ (noBase xs p).q ∧ (noBase xs p).q ≤ p + 15 ∧ (noBase xs p).d.length ≤ 5 := by
  have h := noN_le xs p
  have h2 := wordQ_bd xs (p + 1)
  unfold noBase
  dsimp only
  rw [bytesV_len]
  omega
theorem noV_q (xs : List UInt8) (p n : Int) : p ≤ (noV xs p n).q ∧ (noV xs p n).q ≤ p + 20 ∧ (noV xs p n).d.length ≤ 21 := by
  have h := noBase_q xs p
  have := oneIf_le n
  unfold noV noE
  repeat' split
  all_goals (dsimp only; first | omega | (rw [List.length_replicate]; omega))
def g_word : OC := fun args B0 => match args, B0 with
  | [.ptr r o], [.var T [.l 1 rows, .v (.int .i64 p)]] => some (T = 148 ∧ r = 0 ∧ o = 0 ∧ (∃ xs, rows = rowsOfBytes xs ∧ xs.length ≤ 2000) ∧ 0 ≤ p ∧ p < 100000000000, .v (.int .i64 (wordV (bytesOfRows rows) p)), [.var T [.l 1 rows, .v (.int .i64 (wordQ (bytesOfRows rows) p))]], [])
  | _, _ => none
def g_note : OC := fun args B0 => match args, B0 with
  | [.ptr r o, .v (.int .i64 n)], [.var T [.l 1 rows, .v (.int .i64 p)]] => some (T = 148 ∧ r = 0 ∧ o = 0 ∧ (∃ xs, rows = rowsOfBytes xs ∧ xs.length ≤ 2000) ∧ 0 ≤ p ∧ p < 10000000000 ∧ 0 ≤ n ∧ n ≤ 1000000, .agg [.v (.int .i64 (noV (bytesOfRows rows) p n).k), .v (.int .i64 (noV (bytesOfRows rows) p n).n), .l 1 (rowsOfBytes (noV (bytesOfRows rows) p n).d)], [.var T [.l 1 rows, .v (.int .i64 (noV (bytesOfRows rows) p n).q)]], [])
  | _, _ => none
set_option maxRecDepth 100000 in
theorem word_ok : OwnOk Try.prog 159 g_word := by
  refine OwnOk.of_vcL (G := picks) picks_ok mixed Try.func159 (by kernel_rfl) rfl ?_
  intro args B0 cnd r B1 bs hg hc hlive
  unfold g_word at hg
  split at hg
  · rename_i r o T rows p
    cases hg
    obtain ⟨rfl, rfl, rfl, ⟨xs, rfl, hl⟩, hp0, hp1⟩ := hc
    rw [bytesOf_rows]
    have a1 := pickV_nonneg xs (p + 1) 3 (by omega)
    have a2 := pickV_lt xs (p + 1) 3 (by omega)
    have a3 := pickV_nonneg xs (p + 1) 256 (by omega)
    have a4 := pickV_lt xs (p + 1) 256 (by omega)
    have a5 := pickV_nonneg xs (p + 1 + 1) 256 (by omega)
    have a6 := pickV_lt xs (p + 1 + 1) 256 (by omega)
    have w1 : IntKind.i64.wrap (65535 - pickV xs (p + 1) 3) = 65535 - pickV xs (p + 1) 3 := wrap_id (by omega) (by omega)
    have w2 : IntKind.i64.wrap (pickV xs (p + 1) 256 * 256) = pickV xs (p + 1) 256 * 256 := wrap_id (by omega) (by omega)
    have w3 : IntKind.i64.wrap (pickV xs (p + 1) 256 * 256 + pickV xs (p + 1 + 1) 256) = pickV xs (p + 1) 256 * 256 + pickV xs (p + 1 + 1) 256 := wrap_id (by omega) (by omega)
    refine ⟨⟨by simp [likeBs, likeB], rfl, fun b hb => by simp at hb; subst hb; exact ⟨_, _, rfl, rfl⟩, by simp [AV.ids, AV.ids.idsL]⟩, _, rfl, fun w Z s vs h => h, ?_⟩
    clear hlive
    have hx : (∃ ys, rowsOfBytes xs = rowsOfBytes ys ∧ ys.length ≤ 2000) = True := eq_true ⟨xs, rfl, hl⟩
    simp (maxSteps := 3000000) only [Try.f159, picks, g_pick, w1, w2, w3, bytesOf_rows, rowsOf_len, hx, doneL_ret, doneL_normal, tYs, evL, implies_true, oMin, oCopy, oBin, oUn, oLoadKid, oStoreTree, oField, oExtract, oNil, oSliceQ, oLoadRow, takeCells, TS.atRow, TS.ex, treeMode, AV.isOwn, TK.isSl, nilTk, nilsB, oLenQ, oLen, nodupB, treeOf, kidAbs, kidRows, TK.isCell, D.toL, oLoad, oStore, oMake, oIndexAddr, ↓reduceIte, reduceCtorEq, Nat.reduceBEq, Nat.reduceAdd, Nat.reduceMul, Nat.reduceLT, Nat.reduceSub, Nat.reduceLeDiff, Nat.reduceEqDiff, Nat.reduceBneDiff, Int.reduceToNat, decide_eq_true_eq, decide_eq_false_iff_not, beq_iff_eq, Int.toNat_natCast]
    clear w1 w2 w3
    (repeat (refine And.intro ?_ ?_; focus (((repeat' apply And.intro) <;> first | exact rowsOf_w _ | omega | (simp only [List.length_append, rowsOf_len, List.length_cons, List.length_nil, marks_len, List.length_take, List.length_drop, List.length_set]; omega) | exact ⟨_, rfl⟩ | (refine ⟨_, rfl, ?_⟩; omega) | (refine ⟨_, rfl, ?_⟩; simp only [List.length_append, rowsOf_len, List.length_cons, List.length_nil, marks_len, List.length_take, List.length_drop, List.length_set]; omega) | kernel_rfl | (simp; done)); done)))
    by_cases h0 : pickV xs p 4 = 0
    · rw [if_pos h0, wordV, wordQ, if_pos h0, if_pos h0]
      (repeat (refine And.intro ?_ ?_; focus (((repeat' apply And.intro) <;> first | exact rowsOf_w _ | omega | (simp only [List.length_append, rowsOf_len, List.length_cons, List.length_nil, marks_len, List.length_take, List.length_drop, List.length_set]; omega) | exact ⟨_, rfl⟩ | (refine ⟨_, rfl, ?_⟩; omega) | (refine ⟨_, rfl, ?_⟩; simp only [List.length_append, rowsOf_len, List.length_cons, List.length_nil, marks_len, List.length_take, List.length_drop, List.length_set]; omega) | kernel_rfl | (simp; done)); done)))
      exact ⟨_, rfl, rfl, rfl⟩
    · rw [if_neg h0, wordV, wordQ, if_neg h0, if_neg h0]
      by_cases h1 : pickV xs p 4 = 1
      · rw [if_pos h1, if_pos h1, if_pos h1]
        (repeat (refine And.intro ?_ ?_; focus (((repeat' apply And.intro) <;> first | exact rowsOf_w _ | omega | (simp only [List.length_append, rowsOf_len, List.length_cons, List.length_nil, marks_len, List.length_take, List.length_drop, List.length_set]; omega) | exact ⟨_, rfl⟩ | (refine ⟨_, rfl, ?_⟩; omega) | (refine ⟨_, rfl, ?_⟩; simp only [List.length_append, rowsOf_len, List.length_cons, List.length_nil, marks_len, List.length_take, List.length_drop, List.length_set]; omega) | kernel_rfl | (simp; done)); done)))
        exact ⟨_, rfl, rfl, rfl⟩
      · rw [if_neg h1, if_neg h1, if_neg h1]
        (repeat (refine And.intro ?_ ?_; focus (((repeat' apply And.intro) <;> first | exact rowsOf_w _ | omega | (simp only [List.length_append, rowsOf_len, List.length_cons, List.length_nil, marks_len, List.length_take, List.length_drop, List.length_set]; omega) | exact ⟨_, rfl⟩ | (refine ⟨_, rfl, ?_⟩; omega) | (refine ⟨_, rfl, ?_⟩; simp only [List.length_append, rowsOf_len, List.length_cons, List.length_nil, marks_len, List.length_take, List.length_drop, List.length_set]; omega) | kernel_rfl | (simp; done)); done)))
        exact ⟨_, rfl, rfl, rfl⟩
  · cases hg
def readw : List (FuncId × Abs) := [(58, ownAbs g_pick), (115, ownAbs g_odd), (152, ownAbs g_bytes), (159, ownAbs g_word)]
theorem readw_ok : ∀ p ∈ readw, CallOk Try.prog p.1 p.2 := by
  intro p hp
  simp only [readw, List.mem_cons, List.not_mem_nil, or_false] at hp
  rcases hp with rfl | rfl | rfl | rfl
  · exact pick_ok.call
  · exact odd_ok.call
  · exact bytes_ok.call
  · exact word_ok.call
set_option maxHeartbeats 4000000 in
set_option maxRecDepth 100000 in
theorem l20Note_ok : OwnOk Try.prog 128 g_note := by
  refine OwnOk.of_vcL (G := readw) readw_ok mixed Try.func128 (by kernel_rfl) rfl ?_
  intro args B0 cnd r B1 bs hg hc hlive
  unfold g_note at hg
  split at hg
  · rename_i r o n T rows p
    cases hg
    obtain ⟨rfl, rfl, rfl, ⟨xs, rfl, hl⟩, hp0, hp1, hn0, hn1⟩ := hc
    rw [bytesOf_rows]
    have a1 := pickV_nonneg xs p 6 (by omega)
    have a2 := pickV_lt xs p 6 (by omega)
    have hw := wordQ_bd xs (p + 1)
    have k0 := pickV_nonneg xs (wordQ xs (p + 1)) 6 (by omega)
    have k1 := pickV_lt xs (wordQ xs (p + 1)) 6 (by omega)
    obtain ⟨W, hW⟩ : ∃ W, W = wordQ xs (p + 1) := ⟨_, rfl⟩
    have hW' := hW.symm
    rw [hW'] at hw k0 k1
    obtain ⟨N, hN⟩ : ∃ N, N = noN xs p := ⟨_, rfl⟩
    have hN' : (pickV xs W 6).toNat = N := by rw [hN, noN, hW']
    obtain ⟨q, hq⟩ : ∃ q, q = W + 1 + 2 * (N : Int) := ⟨_, rfl⟩
    have hq' := hq.symm
    obtain ⟨e, he⟩ : ∃ e, e = oneIf n := ⟨_, rfl⟩
    have be := oneIf_le n
    rw [← he] at be
    have he' : (if 0 < n then (1 : Int) else 0) = e := he.symm
    have bq : p ≤ q ∧ q < p + 30 := by omega
    have hB : noBase xs p = ⟨1 + pickV xs p 6, wordV xs (p + 1), bytesV xs (W + 1) N, q⟩ := by rw [noBase, ← hN, hW', hq']
    have b1 := pickV_nonneg xs (q + e + 1) 3 (by omega)
    have b2 := pickV_lt xs (q + e + 1) 3 (by omega)
    have b3 := pickV_nonneg xs (q + e + 1) 2 (by omega)
    have b4 := pickV_lt xs (q + e + 1) 2 (by omega)
    have w1 : IntKind.i64.wrap (1 + pickV xs p 6) = 1 + pickV xs p 6 := wrap_id (by omega) (by omega)
    have w2 : IntKind.i64.wrap (pickV xs (q + e + 1) 3 * 7) = pickV xs (q + e + 1) 3 * 7 := wrap_id (by omega) (by omega)
    have w3 : IntKind.i64.wrap (pickV xs (q + e + 1) 2 * 70000) = pickV xs (q + e + 1) 2 * 70000 := wrap_id (by omega) (by omega)
    have w4 : IntKind.i64.wrap (65536 - pickV xs (q + e + 1) 2 * 70000) = 65536 - pickV xs (q + e + 1) 2 * 70000 := wrap_id (by omega) (by omega)
    refine ⟨⟨by simp [likeBs, likeB], rfl, fun b hb => by simp at hb; subst hb; exact ⟨_, _, rfl, rfl⟩, by simp [AV.ids, AV.ids.idsL]⟩, _, rfl, fun w Z s vs h => h, ?_⟩
    clear hlive
    have hx : (∃ ys, rowsOfBytes xs = rowsOfBytes ys ∧ ys.length ≤ 2000) = True := eq_true ⟨xs, rfl, hl⟩
    simp (maxSteps := 3000000) only [Try.f128, readw, g_pick, g_odd, g_bytes, g_word, hW', hN', hq', he', w1, w2, w3, w4, bytesOf_rows, rowsOf_len, hx, doneL_ret, doneL_normal, tYs, evL, implies_true, oMin, oCopy, oBin, oUn, oLoadKid, oStoreTree, oField, oExtract, oNil, oSliceQ, oLoadRow, takeCells, TS.atRow, TS.ex, treeMode, AV.isOwn, TK.isSl, nilTk, nilsB, oLenQ, oLen, nodupB, treeOf, kidAbs, kidRows, TK.isCell, D.toL, oLoad, oStore, oMake, oIndexAddr, ↓reduceIte, reduceCtorEq, Nat.reduceBEq, Nat.reduceAdd, Nat.reduceMul, Nat.reduceLT, Nat.reduceSub, Nat.reduceLeDiff, Nat.reduceEqDiff, Nat.reduceBneDiff, Int.reduceToNat, decide_eq_true_eq, decide_eq_false_iff_not, beq_iff_eq, Int.toNat_natCast]
    clear w1 w2 w3 w4 hq' he' hN'
    (repeat (refine And.intro ?_ ?_; focus (((repeat' apply And.intro) <;> first | exact rowsOf_w _ | omega | (simp only [List.length_append, rowsOf_len, List.length_cons, List.length_nil, marks_len, List.length_take, List.length_drop, List.length_set]; omega) | exact ⟨_, rfl⟩ | (refine ⟨_, rfl, ?_⟩; omega) | (refine ⟨_, rfl, ?_⟩; simp only [List.length_append, rowsOf_len, List.length_cons, List.length_nil, marks_len, List.length_take, List.length_drop, List.length_set]; omega) | kernel_rfl | (simp; done)); done)))
    by_cases ho : (decide (0 < n) && pickV xs q n == n - 1) = true
    · rw [if_pos ho]
      (repeat (refine And.intro ?_ ?_; focus (((repeat' apply And.intro) <;> first | exact rowsOf_w _ | omega | (simp only [List.length_append, rowsOf_len, List.length_cons, List.length_nil, marks_len, List.length_take, List.length_drop, List.length_set]; omega) | exact ⟨_, rfl⟩ | (refine ⟨_, rfl, ?_⟩; omega) | (refine ⟨_, rfl, ?_⟩; simp only [List.length_append, rowsOf_len, List.length_cons, List.length_nil, marks_len, List.length_take, List.length_drop, List.length_set]; omega) | kernel_rfl | (simp; done)); done)))
      by_cases h0 : pickV xs (q + e) 3 = 0
      · rw [if_pos h0]
        (repeat (refine And.intro ?_ ?_; focus (((repeat' apply And.intro) <;> first | exact rowsOf_w _ | omega | (simp only [List.length_append, rowsOf_len, List.length_cons, List.length_nil, marks_len, List.length_take, List.length_drop, List.length_set]; omega) | exact ⟨_, rfl⟩ | (refine ⟨_, rfl, ?_⟩; omega) | (refine ⟨_, rfl, ?_⟩; simp only [List.length_append, rowsOf_len, List.length_cons, List.length_nil, marks_len, List.length_take, List.length_drop, List.length_set]; omega) | kernel_rfl | (simp; done)); done)))
        have hv : noV xs p n = ⟨pickV xs (q + e + 1) 3 * 7, wordV xs (p + 1), bytesV xs (W + 1) N, q + e + 1 + 1⟩ := by rw [noV, hB, if_pos ho, noE, ← he, if_pos h0]
        rw [hv]
        exact ⟨_, rfl, rfl, rfl⟩
      · rw [if_neg h0]
        by_cases h1 : pickV xs (q + e) 3 = 1
        · rw [if_pos h1]
          (repeat (refine And.intro ?_ ?_; focus (((repeat' apply And.intro) <;> first | exact rowsOf_w _ | omega | (simp only [List.length_append, rowsOf_len, List.length_cons, List.length_nil, marks_len, List.length_take, List.length_drop, List.length_set]; omega) | exact ⟨_, rfl⟩ | (refine ⟨_, rfl, ?_⟩; omega) | (refine ⟨_, rfl, ?_⟩; simp only [List.length_append, rowsOf_len, List.length_cons, List.length_nil, marks_len, List.length_take, List.length_drop, List.length_set]; omega) | kernel_rfl | (simp; done)); done)))
          have hv : noV xs p n = ⟨1 + pickV xs p 6, 65536 - pickV xs (q + e + 1) 2 * 70000, bytesV xs (W + 1) N, q + e + 1 + 1⟩ := by rw [noV, hB, if_pos ho, noE, ← he, if_neg h0, if_pos h1]
          rw [hv]
          exact ⟨_, rfl, rfl, rfl⟩
        · rw [if_neg h1]
          (repeat (refine And.intro ?_ ?_; focus (((repeat' apply And.intro) <;> first | exact rowsOf_w _ | omega | (simp only [List.length_append, rowsOf_len, List.length_cons, List.length_nil, marks_len, List.length_take, List.length_drop, List.length_set]; omega) | exact ⟨_, rfl⟩ | (refine ⟨_, rfl, ?_⟩; omega) | (refine ⟨_, rfl, ?_⟩; simp only [List.length_append, rowsOf_len, List.length_cons, List.length_nil, marks_len, List.length_take, List.length_drop, List.length_set]; omega) | kernel_rfl | (simp; done)); done)))
          have hv : noV xs p n = ⟨1 + pickV xs p 6, wordV xs (p + 1), List.replicate 21 0, q + e + 1⟩ := by rw [noV, hB, if_pos ho, noE, ← he, if_neg h0, if_neg h1]
          rw [hv]
          exact ⟨_, rfl, rfl, rfl⟩
    · rw [if_neg ho]
      (repeat (refine And.intro ?_ ?_; focus (((repeat' apply And.intro) <;> first | exact rowsOf_w _ | omega | (simp only [List.length_append, rowsOf_len, List.length_cons, List.length_nil, marks_len, List.length_take, List.length_drop, List.length_set]; omega) | exact ⟨_, rfl⟩ | (refine ⟨_, rfl, ?_⟩; omega) | (refine ⟨_, rfl, ?_⟩; simp only [List.length_append, rowsOf_len, List.length_cons, List.length_nil, marks_len, List.length_take, List.length_drop, List.length_set]; omega) | kernel_rfl | (simp; done)); done)))
      have hv : noV xs p n = ⟨1 + pickV xs p 6, wordV xs (p + 1), bytesV xs (W + 1) N, q + e⟩ := by rw [noV, hB, if_neg ho, ← he]
      rw [hv]
      exact ⟨_, rfl, rfl, rfl⟩
  · cases hg
def ndV (xs : List UInt8) (p n : Int) : PkV :=
  if 0 < pickV xs (pktV xs p n).q 3 then
    { pktV xs p n with pr := 1, a := 0, m := false, u := false, d := ntV (if pickV xs (noV xs ((pktV xs p n).q + 1) 0).q 2 = 0 then 1 else (noV xs ((pktV xs p n).q + 1) 0).k) (noV xs ((pktV xs p n).q + 1) 0).n (noV xs ((pktV xs p n).q + 1) 0).d, q := (noV xs ((pktV xs p n).q + 1) 0).q + 1 }
  else { pktV xs p n with q := (pktV xs p n).q + 1 }
theorem ndV_q (xs : List UInt8) (p n : Int) : p ≤ (ndV xs p n).q ∧ (ndV xs p n).q < p + 80 ∧ (ndV xs p n).d.length ≤ 49 := by
  have h := pktV_q xs p n
  have h2 := noV_q xs ((pktV xs p n).q + 1) 0
  unfold ndV
  split
  · dsimp only
    have := nt_le (if pickV xs (noV xs ((pktV xs p n).q + 1) 0).q 2 = 0 then 1 else (noV xs ((pktV xs p n).q + 1) 0).k) (noV xs ((pktV xs p n).q + 1) 0).n (noV xs ((pktV xs p n).q + 1) 0).d
    omega
  · dsimp only; omega
def g_noted : OC := fun args B0 => match args, B0 with
  | [.ptr r o, .v (.int .i64 n)], [.var T [.l 1 rows, .v (.int .i64 p)]] => some (T = 148 ∧ r = 0 ∧ o = 0 ∧ (∃ xs, rows = rowsOfBytes xs ∧ xs.length ≤ 2000) ∧ 0 ≤ p ∧ p < 1000000000 ∧ 0 ≤ n ∧ n ≤ 1000000, .agg [.v (.int .i64 (ndV (bytesOfRows rows) p n).f), .v (.int .i64 (ndV (bytesOfRows rows) p n).t), .v (.int .i64 (ndV (bytesOfRows rows) p n).pr), .v (.int .i64 (ndV (bytesOfRows rows) p n).h), .v (.int .i64 (ndV (bytesOfRows rows) p n).i), .v (.int .i64 (ndV (bytesOfRows rows) p n).a), .v (.bool (ndV (bytesOfRows rows) p n).m), .v (.bool (ndV (bytesOfRows rows) p n).u), .l 1 (rowsOfBytes (ndV (bytesOfRows rows) p n).d)], [.var T [.l 1 rows, .v (.int .i64 (ndV (bytesOfRows rows) p n).q)]], [])
  | _, _ => none
def readn : List (FuncId × Abs) := [(58, ownAbs g_pick), (114, ownAbs g_packet), (128, ownAbs g_note), (78, pureAbs g_noteBytes)]
theorem readn_ok : ∀ p ∈ readn, CallOk Try.prog p.1 p.2 := by
  intro p hp
  simp only [readn, List.mem_cons, List.not_mem_nil, or_false] at hp
  rcases hp with rfl | rfl | rfl | rfl
  · exact pick_ok.call
  · exact packet_ok.call
  · exact l20Note_ok.call
  · exact specNoteBytes_ok.call
set_option maxHeartbeats 4000000 in
set_option maxRecDepth 100000 in
theorem l20Noted_ok : OwnOk Try.prog 73 g_noted := by
  refine OwnOk.of_vcL (G := readn) readn_ok mixed Try.func73 (by kernel_rfl) rfl ?_
  intro args B0 cnd r B1 bs hg hc hlive
  unfold g_noted at hg
  split at hg
  · rename_i r o n T rows p
    cases hg
    obtain ⟨rfl, rfl, rfl, ⟨xs, rfl, hl⟩, hp0, hp1, hn0, hn1⟩ := hc
    rw [bytesOf_rows]
    have hb := pktV_q xs p n
    obtain ⟨V, hV⟩ : ∃ V, V = pktV xs p n := ⟨_, rfl⟩
    have hV' := hV.symm
    rw [hV'] at hb
    have hb2 := noV_q xs (V.q + 1) 0
    obtain ⟨W, hW⟩ : ∃ W, W = noV xs (V.q + 1) 0 := ⟨_, rfl⟩
    have hW' := hW.symm
    rw [hW'] at hb2
    clear hV hW
    refine ⟨⟨by simp [likeBs, likeB], rfl, fun b hb => by simp at hb; subst hb; exact ⟨_, _, rfl, rfl⟩, by simp [AV.ids, AV.ids.idsL]⟩, _, rfl, fun w Z s vs h => h, ?_⟩
    clear hlive
    have hx : (∃ ys, rowsOfBytes xs = rowsOfBytes ys ∧ ys.length ≤ 2000) = True := eq_true ⟨xs, rfl, hl⟩
    by_cases hc0 : 0 < pickV xs V.q 3
    · by_cases hc1 : pickV xs W.q 2 = 0
      · have h0 : (pickV xs V.q 3 > 0) = True := eq_true hc0
        have h1 : (pickV xs W.q 2 = 0) = True := eq_true hc1
        have hv : ndV xs p n = { V with pr := 1, a := 0, m := false, u := false, d := ntV 1 W.n W.d, q := W.q + 1 } := by rw [ndV, hV', if_pos hc0, hW', if_pos hc1]
        rw [hv]
        simp (maxSteps := 3000000) only [Try.f73, readn, g_pick, g_packet, g_note, g_noteBytes, hV', hW', h0, h1, bytesOf_rows, rowsOf_len, hx, doneL_ret, doneL_normal, tYs, evL, implies_true, oMin, oCopy, oBin, oUn, oLoadKid, oStoreTree, oField, oExtract, oNil, oSliceQ, oLoadRow, takeCells, TS.atRow, TS.ex, treeMode, AV.isOwn, TK.isSl, nilTk, nilsB, oLenQ, oLen, nodupB, treeOf, kidAbs, kidRows, TK.isCell, D.toL, oLoad, oStore, oMake, oIndexAddr, ↓reduceIte, reduceCtorEq, Nat.reduceBEq, Nat.reduceAdd, Nat.reduceMul, Nat.reduceLT, Nat.reduceSub, Nat.reduceLeDiff, Nat.reduceEqDiff, Nat.reduceBneDiff, Int.reduceToNat, decide_eq_true_eq, decide_eq_false_iff_not, beq_iff_eq, Int.toNat_natCast]
        clear hV' hW' hv
        (repeat (refine And.intro ?_ ?_; focus (((repeat' apply And.intro) <;> first | exact rowsOf_w _ | omega | (simp only [List.length_append, rowsOf_len, List.length_cons, List.length_nil, marks_len, List.length_take, List.length_drop, List.length_set]; omega) | exact ⟨_, rfl⟩ | (refine ⟨_, rfl, ?_⟩; omega) | (refine ⟨_, rfl, ?_⟩; simp only [List.length_append, rowsOf_len, List.length_cons, List.length_nil, marks_len, List.length_take, List.length_drop, List.length_set]; omega) | kernel_rfl | (simp; done)); done)))
        exact ⟨_, rfl, rfl, rfl⟩
      · have h0 : (pickV xs V.q 3 > 0) = True := eq_true hc0
        have h1 : (pickV xs W.q 2 = 0) = False := eq_false hc1
        have hv : ndV xs p n = { V with pr := 1, a := 0, m := false, u := false, d := ntV W.k W.n W.d, q := W.q + 1 } := by rw [ndV, hV', if_pos hc0, hW', if_neg hc1]
        rw [hv]
        simp (maxSteps := 3000000) only [Try.f73, readn, g_pick, g_packet, g_note, g_noteBytes, hV', hW', h0, h1, bytesOf_rows, rowsOf_len, hx, doneL_ret, doneL_normal, tYs, evL, implies_true, oMin, oCopy, oBin, oUn, oLoadKid, oStoreTree, oField, oExtract, oNil, oSliceQ, oLoadRow, takeCells, TS.atRow, TS.ex, treeMode, AV.isOwn, TK.isSl, nilTk, nilsB, oLenQ, oLen, nodupB, treeOf, kidAbs, kidRows, TK.isCell, D.toL, oLoad, oStore, oMake, oIndexAddr, ↓reduceIte, reduceCtorEq, Nat.reduceBEq, Nat.reduceAdd, Nat.reduceMul, Nat.reduceLT, Nat.reduceSub, Nat.reduceLeDiff, Nat.reduceEqDiff, Nat.reduceBneDiff, Int.reduceToNat, decide_eq_true_eq, decide_eq_false_iff_not, beq_iff_eq, Int.toNat_natCast]
        clear hV' hW' hv
        (repeat (refine And.intro ?_ ?_; focus (((repeat' apply And.intro) <;> first | exact rowsOf_w _ | omega | (simp only [List.length_append, rowsOf_len, List.length_cons, List.length_nil, marks_len, List.length_take, List.length_drop, List.length_set]; omega) | exact ⟨_, rfl⟩ | (refine ⟨_, rfl, ?_⟩; omega) | (refine ⟨_, rfl, ?_⟩; simp only [List.length_append, rowsOf_len, List.length_cons, List.length_nil, marks_len, List.length_take, List.length_drop, List.length_set]; omega) | kernel_rfl | (simp; done)); done)))
        exact ⟨_, rfl, rfl, rfl⟩
    · have h0 : (pickV xs V.q 3 > 0) = False := eq_false hc0
      have hv : ndV xs p n = { V with q := V.q + 1 } := by rw [ndV, hV', if_neg hc0]
      rw [hv]
      simp (maxSteps := 3000000) only [Try.f73, readn, g_pick, g_packet, g_note, g_noteBytes, hV', h0, bytesOf_rows, rowsOf_len, hx, doneL_ret, doneL_normal, tYs, evL, implies_true, oMin, oCopy, oBin, oUn, oLoadKid, oStoreTree, oField, oExtract, oNil, oSliceQ, oLoadRow, takeCells, TS.atRow, TS.ex, treeMode, AV.isOwn, TK.isSl, nilTk, nilsB, oLenQ, oLen, nodupB, treeOf, kidAbs, kidRows, TK.isCell, D.toL, oLoad, oStore, oMake, oIndexAddr, ↓reduceIte, reduceCtorEq, Nat.reduceBEq, Nat.reduceAdd, Nat.reduceMul, Nat.reduceLT, Nat.reduceSub, Nat.reduceLeDiff, Nat.reduceEqDiff, Nat.reduceBneDiff, Int.reduceToNat, decide_eq_true_eq, decide_eq_false_iff_not, beq_iff_eq, Int.toNat_natCast]
      clear hV' hW' hv
      (repeat (refine And.intro ?_ ?_; focus (((repeat' apply And.intro) <;> first | exact rowsOf_w _ | omega | (simp only [List.length_append, rowsOf_len, List.length_cons, List.length_nil, marks_len, List.length_take, List.length_drop, List.length_set]; omega) | exact ⟨_, rfl⟩ | (refine ⟨_, rfl, ?_⟩; omega) | (refine ⟨_, rfl, ?_⟩; simp only [List.length_append, rowsOf_len, List.length_cons, List.length_nil, marks_len, List.length_take, List.length_drop, List.length_set]; omega) | kernel_rfl | (simp; done)); done)))
      exact ⟨_, rfl, rfl, rfl⟩
  · cases hg
def nd1 : List (FuncId × Abs) := [(52, ownAbs g_open), (128, ownAbs g_note), (73, ownAbs g_noted), (58, ownAbs g_pick), (159, ownAbs g_word), (78, pureAbs g_noteBytes)]
theorem nd1_ok : ∀ p ∈ nd1, CallOk Try.prog p.1 p.2 := by
  intro p hp
  simp only [nd1, List.mem_cons, List.not_mem_nil, or_false] at hp
  rcases hp with rfl | rfl | rfl | rfl | rfl | rfl
  · exact open_ok.call
  · exact l20Note_ok.call
  · exact l20Noted_ok.call
  · exact pick_ok.call
  · exact word_ok.call
  · exact specNoteBytes_ok.call
def naW (xs : List UInt8) : PkV := ndV xs 0 12
def neO (xs : List UInt8) : Int := if 0 < pickV xs (naW xs).q 4 then (naW xs).t else pickV xs ((naW xs).q + 1) 5
def g_drawNe : PC := fun args => match args with
  | [.l _ rows] => some (∃ xs, rows = rowsOfBytes xs, .tup [.agg [.v (.int .i64 (naW ((bytesOfRows rows).take 2000)).f), .v (.int .i64 (naW ((bytesOfRows rows).take 2000)).t), .v (.int .i64 (naW ((bytesOfRows rows).take 2000)).pr), .v (.int .i64 (naW ((bytesOfRows rows).take 2000)).h), .v (.int .i64 (naW ((bytesOfRows rows).take 2000)).i), .v (.int .i64 (naW ((bytesOfRows rows).take 2000)).a), .v (.bool (naW ((bytesOfRows rows).take 2000)).m), .v (.bool (naW ((bytesOfRows rows).take 2000)).u), .l 1 (rowsOfBytes (naW ((bytesOfRows rows).take 2000)).d)], .v (.int .i64 (neO ((bytesOfRows rows).take 2000)))], [])
  | _ => none
set_option maxHeartbeats 4000000 in
set_option maxRecDepth 100000 in
theorem drawNoteEchoed_ok : OwnOk Try.prog 20 (ocOf g_drawNe) := by
  refine OwnOk.of_vcD (G := nd1) nd1_ok mixed Try.func20 (by kernel_rfl) rfl ?_
  intro args cnd r bs hg hc
  unfold g_drawNe at hg
  split at hg
  · rename_i sz rows
    cases hg
    obtain ⟨xs, rfl⟩ := hc
    rw [bytesOf_rows]
    have hx : (∃ ys, rowsOfBytes (List.take 2000 xs) = rowsOfBytes ys ∧ ys.length ≤ 2000) = True := eq_true ⟨_, rfl, by rw [List.length_take]; omega⟩
    obtain ⟨ys, hys⟩ : ∃ ys, ys = List.take 2000 xs := ⟨_, rfl⟩
    rw [← hys] at hx ⊢
    obtain ⟨V, hV⟩ : ∃ V, V = naW ys := ⟨_, rfl⟩
    have hV' : ndV ys 0 12 = V := hV.symm
    have hW := ndV_q ys 0 12
    rw [hV'] at hW
    rw [neO, ← hV]
    refine ⟨⟨rfl, by simp [AV.ids, AV.ids.idsL]⟩, [.l 1 (rowsOfBytes xs)], rfl, fun w Z s vs h => CvL.ok (.cons (.l _ _ _ (rowsOf_w xs)) .nil) h, ?_⟩
    simp (maxSteps := 3000000) only [Try.f20, nd1, g_open, g_noted, g_pick, bytesOf_rows, rowsOf_len, hx, ← hys, hV', tYs, evL, implies_true, oMin, oCopy, oBin, oUn, oLoadKid, oStoreTree, oField, oExtract, oNil, oSliceQ, oLoadRow, takeCells, TS.atRow, TS.ex, treeMode, AV.isOwn, TK.isSl, nilTk, nilsB, oLenQ, oLen, nodupB, treeOf, kidAbs, kidRows, TK.isCell, D.toL, oLoad, oStore, oMake, oIndexAddr, ↓reduceIte, reduceCtorEq, Nat.reduceBEq, Nat.reduceAdd, Nat.reduceMul, Nat.reduceLT, Nat.reduceSub, Nat.reduceLeDiff, Nat.reduceEqDiff, Nat.reduceBneDiff, Int.reduceToNat, decide_eq_true_eq, decide_eq_false_iff_not, beq_iff_eq, Int.toNat_natCast, doneD_ret, doneD_normal]
    clear hV hV'
    (repeat (refine And.intro ?_ ?_; focus (((repeat' apply And.intro) <;> first | exact rowsOf_w _ | omega | (simp only [List.length_append, rowsOf_len, List.length_cons, List.length_nil, marks_len, List.length_take, List.length_drop, List.length_set]; omega) | exact ⟨_, rfl⟩ | (refine ⟨_, rfl, ?_⟩; omega) | (refine ⟨_, rfl, ?_⟩; simp only [List.length_append, rowsOf_len, List.length_cons, List.length_nil, marks_len, List.length_take, List.length_drop, List.length_set]; omega) | kernel_rfl | (simp; done)); done)))
    by_cases h0 : 0 < pickV ys V.q 4
    · rw [if_pos h0, if_pos h0]
      (repeat (refine And.intro ?_ ?_; focus (((repeat' apply And.intro) <;> first | exact rowsOf_w _ | omega | (simp only [List.length_append, rowsOf_len, List.length_cons, List.length_nil, marks_len, List.length_take, List.length_drop, List.length_set]; omega) | exact ⟨_, rfl⟩ | (refine ⟨_, rfl, ?_⟩; omega) | (refine ⟨_, rfl, ?_⟩; simp only [List.length_append, rowsOf_len, List.length_cons, List.length_nil, marks_len, List.length_take, List.length_drop, List.length_set]; omega) | kernel_rfl | (simp; done)); done)))
      exact ⟨_, rfl, rfl⟩
    · rw [if_neg h0, if_neg h0]
      (repeat (refine And.intro ?_ ?_; focus (((repeat' apply And.intro) <;> first | exact rowsOf_w _ | omega | (simp only [List.length_append, rowsOf_len, List.length_cons, List.length_nil, marks_len, List.length_take, List.length_drop, List.length_set]; omega) | exact ⟨_, rfl⟩ | (refine ⟨_, rfl, ?_⟩; omega) | (refine ⟨_, rfl, ?_⟩; simp only [List.length_append, rowsOf_len, List.length_cons, List.length_nil, marks_len, List.length_take, List.length_drop, List.length_set]; omega) | kernel_rfl | (simp; done)); done)))
      exact ⟨_, rfl, rfl⟩
  · cases hg
end Go.Proofs.Ytegffkmakkccaaa
