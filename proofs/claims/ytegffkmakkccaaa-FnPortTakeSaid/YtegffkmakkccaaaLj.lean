import Derived.Test.YtegffkmakkccaaaLf
import Derived.Test.YtegffkmakkccaaaVf
set_option linter.unusedVariables false
set_option linter.unusedSimpArgs false
namespace Go.Proofs.Ytegffkmakkccaaa
open Go.RowKit
set_option linter.unusedSimpArgs false
structure MlW where
  a : Int
  f : Int
  t : Int
  d : List UInt8
  q : Int
def mwN (xs : List UInt8) (p : Int) : Nat := (pickV xs (p + 1 + 1 + 1) 6).toNat
def mwBase (xs : List UInt8) (p : Int) : MlW := ⟨pickV xs p 5, 1 + pickV xs (p + 1) 4, 1 + pickV xs (p + 1 + 1) 6, bytesV xs (p + 1 + 1 + 1 + 1) (mwN xs p), p + 1 + 1 + 1 + 1 + 2 * (mwN xs p : Int)⟩
def mwE (xs : List UInt8) (b : MlW) (x : Int) : MlW :=
  if pickV xs x 3 = 0 then { b with f := pickV xs (x + 1) 2 * 256, q := x + 1 + 1 }
  else if pickV xs x 3 = 1 then { b with t := 0 - pickV xs (x + 1) 2, q := x + 1 + 1 }
  else { b with d := List.replicate 41 0, q := x + 1 }
def mwV (xs : List UInt8) (p n : Int) : MlW := if (decide (0 < n) && pickV xs (mwBase xs p).q n == n - 1) = true then mwE xs (mwBase xs p) ((mwBase xs p).q + oneIf n) else { mwBase xs p with q := (mwBase xs p).q + oneIf n }
theorem mwN_le (xs : List UInt8) (p : Int) : mwN xs p ≤ 5 := by
  have := pickV_lt xs (p + 1 + 1 + 1) 6 (by omega)
  unfold mwN; omega
theorem mwBase_q (xs : List UInt8) (p : Int) : p ≤ (mwBase xs p).q ∧ (mwBase xs p).q ≤ p + 14 ∧ (mwBase xs p).d.length ≤ 5 := by
  have h := mwN_le xs p
  unfold mwBase
  dsimp only
  rw [bytesV_len]
  omega
theorem mwV_q (xs : List UInt8) (p n : Int) : p ≤ (mwV xs p n).q ∧ (mwV xs p n).q ≤ p + 20 ∧ (mwV xs p n).d.length ≤ 41 := by
  have h := mwBase_q xs p
  have := oneIf_le n
  unfold mwV mwE
  repeat' split
  all_goals (dsimp only; first | omega | (rw [List.length_replicate]; omega))
def mwM (v : MlW) : Ml := ⟨v.a, v.f, v.t, v.d⟩
def g_mail : OC := fun args B0 => match args, B0 with
  | [.ptr r o, .v (.int .i64 n)], [.var T [.l 1 rows, .v (.int .i64 p)]] => some (T = 148 ∧ r = 0 ∧ o = 0 ∧ (∃ xs, rows = rowsOfBytes xs ∧ xs.length ≤ 2000) ∧ 0 ≤ p ∧ p < 10000000000 ∧ 0 ≤ n ∧ n ≤ 1000000, .agg [.v (.int .i64 (mwV (bytesOfRows rows) p n).a), .v (.int .i64 (mwV (bytesOfRows rows) p n).f), .v (.int .i64 (mwV (bytesOfRows rows) p n).t), .l 1 (rowsOfBytes (mwV (bytesOfRows rows) p n).d)], [.var T [.l 1 rows, .v (.int .i64 (mwV (bytesOfRows rows) p n).q)]], [])
  | _, _ => none
def rdm : List (FuncId × Abs) := [(58, ownAbs g_pick), (115, ownAbs g_odd), (152, ownAbs g_bytes)]
theorem rdm_ok : ∀ p ∈ rdm, CallOk Try.prog p.1 p.2 := by
  intro p hp
  simp only [rdm, List.mem_cons, List.not_mem_nil, or_false] at hp
  rcases hp with rfl | rfl | rfl
  · exact pick_ok.call
  · exact odd_ok.call
  · exact bytes_ok.call
set_option maxHeartbeats 4000000 in
set_option maxRecDepth 100000 in
theorem l20Mail_ok : OwnOk Try.prog 135 g_mail := by
  refine OwnOk.of_vcL (G := rdm) rdm_ok mixed Try.func135 (by kernel_rfl) rfl ?_
  intro args B0 cnd r B1 bs hg hc hlive
  unfold g_mail at hg
  split at hg
  · rename_i r o n T rows p
    cases hg
    obtain ⟨rfl, rfl, rfl, ⟨xs, rfl, hl⟩, hp0, hp1, hn0, hn1⟩ := hc
    rw [bytesOf_rows]
    have a1 := pickV_nonneg xs (p + 1) 4 (by omega)
    have a2 := pickV_lt xs (p + 1) 4 (by omega)
    have a3 := pickV_nonneg xs (p + 1 + 1) 6 (by omega)
    have a4 := pickV_lt xs (p + 1 + 1) 6 (by omega)
    have k0 := pickV_nonneg xs (p + 1 + 1 + 1) 6 (by omega)
    have k1 := pickV_lt xs (p + 1 + 1 + 1) 6 (by omega)
    obtain ⟨N, hN⟩ : ∃ N, N = mwN xs p := ⟨_, rfl⟩
    have hN' : (pickV xs (p + 1 + 1 + 1) 6).toNat = N := by rw [hN, mwN]
    obtain ⟨q, hq⟩ : ∃ q, q = p + 1 + 1 + 1 + 1 + 2 * (N : Int) := ⟨_, rfl⟩
    have hq' := hq.symm
    obtain ⟨e, he⟩ : ∃ e, e = oneIf n := ⟨_, rfl⟩
    have be := oneIf_le n
    rw [← he] at be
    have he' : (if 0 < n then (1 : Int) else 0) = e := he.symm
    have bq : p ≤ q ∧ q < p + 30 := by omega
    have hB : mwBase xs p = ⟨pickV xs p 5, 1 + pickV xs (p + 1) 4, 1 + pickV xs (p + 1 + 1) 6, bytesV xs (p + 1 + 1 + 1 + 1) N, q⟩ := by rw [mwBase, ← hN, hq']
    have b3 := pickV_nonneg xs (q + e + 1) 2 (by omega)
    have b4 := pickV_lt xs (q + e + 1) 2 (by omega)
    have w1 : IntKind.i64.wrap (1 + pickV xs (p + 1) 4) = 1 + pickV xs (p + 1) 4 := wrap_id (by omega) (by omega)
    have w2 : IntKind.i64.wrap (1 + pickV xs (p + 1 + 1) 6) = 1 + pickV xs (p + 1 + 1) 6 := wrap_id (by omega) (by omega)
    have w3 : IntKind.i64.wrap (pickV xs (q + e + 1) 2 * 256) = pickV xs (q + e + 1) 2 * 256 := wrap_id (by omega) (by omega)
    have w4 : IntKind.i64.wrap (0 - pickV xs (q + e + 1) 2) = 0 - pickV xs (q + e + 1) 2 := wrap_id (by omega) (by omega)
    refine ⟨⟨by simp [likeBs, likeB], rfl, fun b hb => by simp at hb; subst hb; exact ⟨_, _, rfl, rfl⟩, by simp [AV.ids, AV.ids.idsL]⟩, _, rfl, fun w Z s vs h => h, ?_⟩
    clear hlive
    have hx : (∃ ys, rowsOfBytes xs = rowsOfBytes ys ∧ ys.length ≤ 2000) = True := eq_true ⟨xs, rfl, hl⟩
    simp (maxSteps := 3000000) only [Try.f135, rdm, g_pick, g_odd, g_bytes, hN', hq', he', w1, w2, w3, w4, bytesOf_rows, rowsOf_len, hx, doneL_ret, doneL_normal, tYs, evL, implies_true, oMin, oCopy, oBin, oUn, oLoadKid, oStoreTree, oField, oExtract, oNil, oSliceQ, oLoadRow, takeCells, TS.atRow, TS.ex, treeMode, AV.isOwn, TK.isSl, nilTk, nilsB, oLenQ, oLen, nodupB, treeOf, kidAbs, kidRows, TK.isCell, D.toL, oLoad, oStore, oMake, oIndexAddr, ↓reduceIte, reduceCtorEq, Nat.reduceBEq, Nat.reduceAdd, Nat.reduceMul, Nat.reduceLT, Nat.reduceSub, Nat.reduceLeDiff, Nat.reduceEqDiff, Nat.reduceBneDiff, Int.reduceToNat, decide_eq_true_eq, decide_eq_false_iff_not, beq_iff_eq, Int.toNat_natCast]
    clear w1 w2 w3 w4 hq' he' hN'
    (repeat (refine And.intro ?_ ?_; focus (((repeat' apply And.intro) <;> first | exact rowsOf_w _ | omega | (simp only [List.length_append, rowsOf_len, List.length_cons, List.length_nil, marks_len, List.length_take, List.length_drop, List.length_set]; omega) | exact ⟨_, rfl⟩ | (refine ⟨_, rfl, ?_⟩; omega) | (refine ⟨_, rfl, ?_⟩; simp only [List.length_append, rowsOf_len, List.length_cons, List.length_nil, marks_len, List.length_take, List.length_drop, List.length_set]; omega) | kernel_rfl | (simp; done)); done)))
    by_cases ho : (decide (0 < n) && pickV xs q n == n - 1) = true
    · rw [if_pos ho]
      (repeat (refine And.intro ?_ ?_; focus (((repeat' apply And.intro) <;> first | exact rowsOf_w _ | omega | (simp only [List.length_append, rowsOf_len, List.length_cons, List.length_nil, marks_len, List.length_take, List.length_drop, List.length_set]; omega) | exact ⟨_, rfl⟩ | (refine ⟨_, rfl, ?_⟩; omega) | (refine ⟨_, rfl, ?_⟩; simp only [List.length_append, rowsOf_len, List.length_cons, List.length_nil, marks_len, List.length_take, List.length_drop, List.length_set]; omega) | kernel_rfl | (simp; done)); done)))
      by_cases h0 : pickV xs (q + e) 3 = 0
      · rw [if_pos h0]
        (repeat (refine And.intro ?_ ?_; focus (((repeat' apply And.intro) <;> first | exact rowsOf_w _ | omega | (simp only [List.length_append, rowsOf_len, List.length_cons, List.length_nil, marks_len, List.length_take, List.length_drop, List.length_set]; omega) | exact ⟨_, rfl⟩ | (refine ⟨_, rfl, ?_⟩; omega) | (refine ⟨_, rfl, ?_⟩; simp only [List.length_append, rowsOf_len, List.length_cons, List.length_nil, marks_len, List.length_take, List.length_drop, List.length_set]; omega) | kernel_rfl | (simp; done)); done)))
        have hv : mwV xs p n = ⟨pickV xs p 5, pickV xs (q + e + 1) 2 * 256, 1 + pickV xs (p + 1 + 1) 6, bytesV xs (p + 1 + 1 + 1 + 1) N, q + e + 1 + 1⟩ := by rw [mwV, hB, if_pos ho, mwE, ← he, if_pos h0]
        rw [hv]
        exact ⟨_, rfl, rfl, rfl⟩
      · rw [if_neg h0]
        by_cases h1 : pickV xs (q + e) 3 = 1
        · rw [if_pos h1]
          (repeat (refine And.intro ?_ ?_; focus (((repeat' apply And.intro) <;> first | exact rowsOf_w _ | omega | (simp only [List.length_append, rowsOf_len, List.length_cons, List.length_nil, marks_len, List.length_take, List.length_drop, List.length_set]; omega) | exact ⟨_, rfl⟩ | (refine ⟨_, rfl, ?_⟩; omega) | (refine ⟨_, rfl, ?_⟩; simp only [List.length_append, rowsOf_len, List.length_cons, List.length_nil, marks_len, List.length_take, List.length_drop, List.length_set]; omega) | kernel_rfl | (simp; done)); done)))
          have hv : mwV xs p n = ⟨pickV xs p 5, 1 + pickV xs (p + 1) 4, 0 - pickV xs (q + e + 1) 2, bytesV xs (p + 1 + 1 + 1 + 1) N, q + e + 1 + 1⟩ := by rw [mwV, hB, if_pos ho, mwE, ← he, if_neg h0, if_pos h1]
          rw [hv]
          exact ⟨_, rfl, rfl, rfl⟩
        · rw [if_neg h1]
          (repeat (refine And.intro ?_ ?_; focus (((repeat' apply And.intro) <;> first | exact rowsOf_w _ | omega | (simp only [List.length_append, rowsOf_len, List.length_cons, List.length_nil, marks_len, List.length_take, List.length_drop, List.length_set]; omega) | exact ⟨_, rfl⟩ | (refine ⟨_, rfl, ?_⟩; omega) | (refine ⟨_, rfl, ?_⟩; simp only [List.length_append, rowsOf_len, List.length_cons, List.length_nil, marks_len, List.length_take, List.length_drop, List.length_set]; omega) | kernel_rfl | (simp; done)); done)))
          have hv : mwV xs p n = ⟨pickV xs p 5, 1 + pickV xs (p + 1) 4, 1 + pickV xs (p + 1 + 1) 6, List.replicate 41 0, q + e + 1⟩ := by rw [mwV, hB, if_pos ho, mwE, ← he, if_neg h0, if_neg h1]
          rw [hv]
          exact ⟨_, rfl, rfl, rfl⟩
    · rw [if_neg ho]
      (repeat (refine And.intro ?_ ?_; focus (((repeat' apply And.intro) <;> first | exact rowsOf_w _ | omega | (simp only [List.length_append, rowsOf_len, List.length_cons, List.length_nil, marks_len, List.length_take, List.length_drop, List.length_set]; omega) | exact ⟨_, rfl⟩ | (refine ⟨_, rfl, ?_⟩; omega) | (refine ⟨_, rfl, ?_⟩; simp only [List.length_append, rowsOf_len, List.length_cons, List.length_nil, marks_len, List.length_take, List.length_drop, List.length_set]; omega) | kernel_rfl | (simp; done)); done)))
      have hv : mwV xs p n = ⟨pickV xs p 5, 1 + pickV xs (p + 1) 4, 1 + pickV xs (p + 1 + 1) 6, bytesV xs (p + 1 + 1 + 1 + 1) N, q + e⟩ := by rw [mwV, hB, if_neg ho, ← he]
      rw [hv]
      exact ⟨_, rfl, rfl, rfl⟩
  · cases hg
def g_sameMail : PC := fun args => match args with
  | [.agg [.v (.int .i64 a), .v (.int .i64 f), .v (.int .i64 t), .l _ rows], .agg [.v (.int .i64 a'), .v (.int .i64 f'), .v (.int .i64 t'), .l _ rows']] => some ((∃ xs, rows = rowsOfBytes xs) ∧ (∃ ys, rows' = rowsOfBytes ys), .v (.bool (decide (a = a' ∧ f = f' ∧ t = t' ∧ bytesOfRows rows = bytesOfRows rows'))), [])
  | _ => none
def ls0 : List (FuncId × Abs) := [(24, pureAbs g_sameBytes)]
theorem ls0_ok : ∀ p ∈ ls0, CallOk Try.prog p.1 p.2 := by
  intro p hp
  simp only [ls0, List.mem_cons, List.not_mem_nil, or_false] at hp
  rcases hp with rfl
  · exact sameBytes_ok.call
set_option maxRecDepth 100000 in
theorem sameMail_ok : PureOk Try.prog 29 g_sameMail := by
  refine PureOk.of_vc (G := ls0) ls0_ok mixed Try.func29 (by kernel_rfl) rfl ?_
  intro args cnd r bs hg hc
  unfold g_sameMail at hg
  split at hg
  · rename_i a f t sz rows a' f' t' sz' rows'
    cases hg
    obtain ⟨⟨xs, rfl⟩, ys, rfl⟩ := hc
    rw [bytesOf_rows, bytesOf_rows]
    refine ⟨⟨rfl, by simp, by simp [AV.ids, AV.ids.idsL]⟩, [.agg [.v (.int .i64 a), .v (.int .i64 f), .v (.int .i64 t), .l 1 (rowsOfBytes xs)], .agg [.v (.int .i64 a'), .v (.int .i64 f'), .v (.int .i64 t'), .l 1 (rowsOfBytes ys)]], rfl, fun w vs h => CvL.ok (.cons (.cons (.refl _) (.cons (.refl _) (.cons (.refl _) (.cons (.l _ _ _ (rowsOf_w xs)) .nil)))) (.cons (.cons (.refl _) (.cons (.refl _) (.cons (.refl _) (.cons (.l _ _ _ (rowsOf_w ys)) .nil)))) .nil)) h, ?_⟩
    simp (maxSteps := 3000000) only [Try.f29, ls0, g_sameBytes, bytesOf_rows, tYs, evL, implies_true, oMin, oCopy, oBin, oUn, oLoadKid, oStoreTree, oField, oExtract, oNil, oSliceQ, oLoadRow, takeCells, TS.atRow, TS.ex, treeMode, AV.isOwn, TK.isSl, nilTk, nilsB, oLenQ, oLen, nodupB, treeOf, kidAbs, kidRows, TK.isCell, D.toL, oLoad, oStore, oMake, oIndexAddr, ↓reduceIte, reduceCtorEq, Nat.reduceBEq, Nat.reduceAdd, Nat.reduceMul, Nat.reduceLT, Nat.reduceSub, Nat.reduceLeDiff, Nat.reduceEqDiff, Nat.reduceBneDiff, Int.reduceToNat, decide_eq_true_eq, decide_eq_false_iff_not, beq_iff_eq, Int.toNat_natCast]
    by_cases e0 : a = a'
    · rw [if_pos e0]
      by_cases e1 : f = f'
      · rw [if_pos e1]
        by_cases e2 : t = t'
        · rw [if_pos e2]
          (repeat (refine And.intro ?_ ?_; focus (((repeat' apply And.intro) <;> first | exact rowsOf_w _ | omega | (simp only [List.length_append, rowsOf_len, List.length_cons, List.length_nil, marks_len, List.length_take, List.length_drop, List.length_set]; omega) | exact ⟨_, rfl⟩ | (refine ⟨_, rfl, ?_⟩; omega) | (refine ⟨_, rfl, ?_⟩; simp only [List.length_append, rowsOf_len, List.length_cons, List.length_nil, marks_len, List.length_take, List.length_drop, List.length_set]; omega) | kernel_rfl | (simp; done)); done)))
          have e : decide (a = a' ∧ f = f' ∧ t = t' ∧ xs = ys) = (xs == ys) := by rw [Bool.eq_iff_iff, decide_eq_true_eq, beq_iff_eq]; exact ⟨fun k => k.2.2.2, fun k => ⟨e0, e1, e2, k⟩⟩
          rw [e]
          exact ⟨_, [], rfl, ⟨⟨⟨rfl, rfl, rfl⟩, trivial⟩, trivial, by simp [rn, hpAt]⟩⟩
        · rw [if_neg e2]
          have e : decide (a = a' ∧ f = f' ∧ t = t' ∧ xs = ys) = false := by rw [decide_eq_false_iff_not]; exact fun k => e2 k.2.2.1
          rw [e]
          exact ⟨_, [], rfl, ⟨⟨⟨rfl, rfl, rfl⟩, trivial⟩, trivial, by simp [rn, hpAt]⟩⟩
      · rw [if_neg e1]
        have e : decide (a = a' ∧ f = f' ∧ t = t' ∧ xs = ys) = false := by rw [decide_eq_false_iff_not]; exact fun k => e1 k.2.1
        rw [e]
        exact ⟨_, [], rfl, ⟨⟨⟨rfl, rfl, rfl⟩, trivial⟩, trivial, by simp [rn, hpAt]⟩⟩
    · rw [if_neg e0]
      have e : decide (a = a' ∧ f = f' ∧ t = t' ∧ xs = ys) = false := by rw [decide_eq_false_iff_not]; exact fun k => e0 k.1
      rw [e]
      exact ⟨_, [], rfl, ⟨⟨⟨rfl, rfl, rfl⟩, trivial⟩, trivial, by simp [rn, hpAt]⟩⟩
  · cases hg
end Go.Proofs.Ytegffkmakkccaaa
