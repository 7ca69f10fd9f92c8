import Derived.Test.YtknnobnedepinaaLf
import Derived.Test.YtknnobnedepinaaVf
set_option linter.unusedVariables false
set_option linter.unusedSimpArgs false
namespace Go.Proofs.Ytknnobnedepinaa
open Go.RowKit
set_option linter.unusedSimpArgs false
structure MlW where
  a : Int
  f : Int
  t : Int
  d : List UInt8
  q : Int
def mwN (xs : List UInt8) (p : Int) : Nat := (pickV xs (p + 1 + 1 + 1) 6).toNat
def mwBase (xs : List UInt8) (p : Int) : MlW := ⟨pickV xs p 5, 1 + pickV xs (p + 1) 4, 1 + pickV xs (p + 1 + 1) 6, bytesV xs (p + 1 + 1 + 1 + 1) (mwN xs p), p + 1 + 1 + 1 + 1 + 2 * (mwN xs p : Int)⟩
def mwE (xs : List UInt8) (b : MlW) (x : Int) : MlW :=
  if pickV xs x 3 = 0 then { b with f := pickV xs (x + 1) 2 * 256, q := x + 1 + 1 }
  else if pickV xs x 3 = 1 then { b with t := 0 - pickV xs (x + 1) 2, q := x + 1 + 1 }
  else { b with d := List.replicate 41 0, q := x + 1 }
def mwV (xs : List UInt8) (p n : Int) : MlW := if (decide (0 < n) && pickV xs (mwBase xs p).q n == n - 1) = true then mwE xs (mwBase xs p) ((mwBase xs p).q + oneIf n) else { mwBase xs p with q := (mwBase xs p).q + oneIf n }
theorem mwN_le (xs : List UInt8) (p : Int) : mwN xs p ≤ 5 := by
  have := pickV_lt xs (p + 1 + 1 + 1) 6 (by omega)
  unfold mwN; omega
theorem mwBase_q (xs : List UInt8) (p : Int) : p ≤ (mwBase xs p).q ∧ (mwBase xs p).q ≤ p + 14 ∧ (mwBase xs p).d.length ≤ 5 := by
  have h := mwN_le xs p
  unfold mwBase
  dsimp only
  rw [bytesV_len]
  omega
theorem mwV_q (xs : List UInt8) (p n : Int) : p ≤ (mwV xs p n).q ∧ (mwV xs p n).q ≤ p + 20 ∧ (mwV xs p n).d.length ≤ 41 := by
  have h := mwBase_q xs p
  have := oneIf_le n
  unfold mwV mwE
  repeat' split
  all_goals (dsimp only; first | omega | (rw [List.length_replicate]; omega))
theorem mwV_bd (xs : List UInt8) (p n : Int) (hp : p < 100000000000) : (0 ≤ (mwV xs p n).a ∧ (mwV xs p n).a ≤ 4) ∧ (0 ≤ (mwV xs p n).f ∧ (mwV xs p n).f ≤ 256) ∧ (-1 ≤ (mwV xs p n).t ∧ (mwV xs p n).t ≤ 6) := by
  have h := mwBase_q xs p
  have := oneIf_le n
  have a1 := pickV_nonneg xs p 5 (by omega)
  have a2 := pickV_lt xs p 5 (by omega)
  have a3 := pickV_nonneg xs (p + 1) 4 (by omega)
  have a4 := pickV_lt xs (p + 1) 4 (by omega)
  have a5 := pickV_nonneg xs (p + 1 + 1) 6 (by omega)
  have a6 := pickV_lt xs (p + 1 + 1) 6 (by omega)
  have b1 := pickV_nonneg xs ((mwBase xs p).q + oneIf n + 1) 2 (by omega)
  have b2 := pickV_lt xs ((mwBase xs p).q + oneIf n + 1) 2 (by omega)
  have e1 : (mwBase xs p).a = pickV xs p 5 := rfl
  have e2 : (mwBase xs p).f = 1 + pickV xs (p + 1) 4 := rfl
  have e3 : (mwBase xs p).t = 1 + pickV xs (p + 1 + 1) 6 := rfl
  unfold mwV mwE
  repeat' split
  all_goals (dsimp only; omega)
theorem mwV_0 (xs : List UInt8) (p : Int) : mwV xs p 0 = mwBase xs p := by
  have e : (mwBase xs p).q + oneIf 0 = (mwBase xs p).q := by simp [oneIf]
  rw [mwV, if_neg (by simp), e]
def mwM (v : MlW) : Ml := ⟨v.a, v.f, v.t, v.d⟩
theorem mw_ok (xs : List UInt8) (p : Int) (hp : p < 100000000000) : mlB (mwM (mwV xs p 0)) = true := by
  have h := mwBase_q xs p
  have a1 := pickV_nonneg xs p 5 (by omega)
  have a2 := pickV_lt xs p 5 (by omega)
  have a3 := pickV_nonneg xs (p + 1) 4 (by omega)
  have a4 := pickV_lt xs (p + 1) 4 (by omega)
  have a5 := pickV_nonneg xs (p + 1 + 1) 6 (by omega)
  have a6 := pickV_lt xs (p + 1 + 1) 6 (by omega)
  rw [mwV_0]
  refine mlB_iff.2 ⟨?_, ?_, ?_, ?_⟩
  · show 0 ≤ pickV xs p 5 ∧ pickV xs p 5 ≤ 65535
    omega
  · show 1 ≤ 1 + pickV xs (p + 1) 4 ∧ 1 + pickV xs (p + 1) 4 ≤ 255
    omega
  · show 1 ≤ 1 + pickV xs (p + 1 + 1) 6 ∧ 1 + pickV xs (p + 1 + 1) 6 ≤ 255
    omega
  · show (mwBase xs p).d.length ≤ 40
    omega
def g_mail : OC := fun args B0 => match args, B0 with
  | [.ptr r o, .v (.int .i64 n)], [.var T [.l 1 rows, .v (.int .i64 p)]] => some (T = 100 ∧ r = 0 ∧ o = 0 ∧ (∃ xs, rows = rowsOfBytes xs ∧ xs.length ≤ 2000) ∧ 0 ≤ p ∧ p < 10000000000 ∧ 0 ≤ n ∧ n ≤ 1000000, .agg [.v (.int .i64 (mwV (bytesOfRows rows) p n).a), .v (.int .i64 (mwV (bytesOfRows rows) p n).f), .v (.int .i64 (mwV (bytesOfRows rows) p n).t), .l 1 (rowsOfBytes (mwV (bytesOfRows rows) p n).d)], [.var T [.l 1 rows, .v (.int .i64 (mwV (bytesOfRows rows) p n).q)]], [])
  | _, _ => none
def rdm : List (FuncId × Abs) := [(61, ownAbs g_pick), (84, ownAbs g_odd), (83, ownAbs g_bytes)]
theorem rdm_ok : ∀ p ∈ rdm, CallOk Try.prog p.1 p.2 := by
  intro p hp
  simp only [rdm, List.mem_cons, List.not_mem_nil, or_false] at hp
  rcases hp with rfl | rfl | rfl
  · exact pick_ok.call
  · exact odd_ok.call
  · exact bytes_ok.call
set_option maxHeartbeats 4000000 in
set_option maxRecDepth 100000 in
theorem l20Mail_ok : OwnOk Try.prog 55 g_mail := by
  refine OwnOk.of_vcL (G := rdm) rdm_ok mixed Try.func55 (by kernel_rfl) rfl ?_
  intro args B0 cnd r B1 bs hg hc hlive
  unfold g_mail at hg
  split at hg
  · rename_i r o n T rows p
    cases hg
    obtain ⟨rfl, rfl, rfl, ⟨xs, rfl, hl⟩, hp0, hp1, hn0, hn1⟩ := hc
    rw [bytesOf_rows]
    have a1 := pickV_nonneg xs (p + 1) 4 (by omega)
    have a2 := pickV_lt xs (p + 1) 4 (by omega)
    have a3 := pickV_nonneg xs (p + 1 + 1) 6 (by omega)
    have a4 := pickV_lt xs (p + 1 + 1) 6 (by omega)
    have k0 := pickV_nonneg xs (p + 1 + 1 + 1) 6 (by omega)
    have k1 := pickV_lt xs (p + 1 + 1 + 1) 6 (by omega)
    obtain ⟨N, hN⟩ : ∃ N, N = mwN xs p := ⟨_, rfl⟩
    have hN' : (pickV xs (p + 1 + 1 + 1) 6).toNat = N := by rw [hN, mwN]
    obtain ⟨q, hq⟩ : ∃ q, q = p + 1 + 1 + 1 + 1 + 2 * (N : Int) := ⟨_, rfl⟩
    have hq' := hq.symm
    obtain ⟨e, he⟩ : ∃ e, e = oneIf n := ⟨_, rfl⟩
    have be := oneIf_le n
    rw [← he] at be
    have he' : (if 0 < n then (1 : Int) else 0) = e := he.symm
    have bq : p ≤ q ∧ q < p + 30 := by omega
    have hB : mwBase xs p = ⟨pickV xs p 5, 1 + pickV xs (p + 1) 4, 1 + pickV xs (p + 1 + 1) 6, bytesV xs (p + 1 + 1 + 1 + 1) N, q⟩ := by rw [mwBase, ← hN, hq']
    have b3 := pickV_nonneg xs (q + e + 1) 2 (by omega)
    have b4 := pickV_lt xs (q + e + 1) 2 (by omega)
    have w1 : IntKind.i64.wrap (1 + pickV xs (p + 1) 4) = 1 + pickV xs (p + 1) 4 := wrap_id (by omega) (by omega)
    have w2 : IntKind.i64.wrap (1 + pickV xs (p + 1 + 1) 6) = 1 + pickV xs (p + 1 + 1) 6 := wrap_id (by omega) (by omega)
    have w3 : IntKind.i64.wrap (pickV xs (q + e + 1) 2 * 256) = pickV xs (q + e + 1) 2 * 256 := wrap_id (by omega) (by omega)
    have w4 : IntKind.i64.wrap (0 - pickV xs (q + e + 1) 2) = 0 - pickV xs (q + e + 1) 2 := wrap_id (by omega) (by omega)
    refine ⟨⟨by simp [likeBs, likeB], rfl, fun b hb => by simp at hb; subst hb; exact ⟨_, _, rfl, rfl⟩, by simp [AV.ids, AV.ids.idsL]⟩, _, rfl, fun w Z s vs h => h, ?_⟩
    clear hlive
    have hx : (∃ ys, rowsOfBytes xs = rowsOfBytes ys ∧ ys.length ≤ 2000) = True := eq_true ⟨xs, rfl, hl⟩
    simp (maxSteps := 3000000) only [Try.f55, rdm, g_pick, g_odd, g_bytes, hN', hq', he', w1, w2, w3, w4, bytesOf_rows, rowsOf_len, hx, doneL_ret, doneL_normal, tYs, evL, implies_true, oMin, oCopy, oBin, oUn, oLoadKid, oStoreTree, oField, oExtract, oNil, oSliceQ, oLoadRow, takeCells, TS.atRow, TS.ex, treeMode, AV.isOwn, TK.isSl, nilTk, nilsB, oLenQ, oLen, nodupB, treeOf, kidAbs, kidRows, TK.isCell, D.toL, oLoad, oStore, oMake, oIndexAddr, ↓reduceIte, reduceCtorEq, Nat.reduceBEq, Nat.reduceAdd, Nat.reduceMul, Nat.reduceLT, Nat.reduceSub, Nat.reduceLeDiff, Nat.reduceEqDiff, Nat.reduceBneDiff, Int.reduceToNat, decide_eq_true_eq, decide_eq_false_iff_not, beq_iff_eq, Int.toNat_natCast]
    clear w1 w2 w3 w4 hq' he' hN'
    (repeat (refine And.intro ?_ ?_; focus (((repeat' apply And.intro) <;> first | exact rowsOf_w _ | omega | (simp only [List.length_append, rowsOf_len, List.length_cons, List.length_nil, marks_len, List.length_take, List.length_drop, List.length_set]; omega) | exact ⟨_, rfl⟩ | (refine ⟨_, rfl, ?_⟩; omega) | (refine ⟨_, rfl, ?_⟩; simp only [List.length_append, rowsOf_len, List.length_cons, List.length_nil, marks_len, List.length_take, List.length_drop, List.length_set]; omega) | kernel_rfl | (simp; done)); done)))
    by_cases ho : (decide (0 < n) && pickV xs q n == n - 1) = true
    · rw [if_pos ho]
      (repeat (refine And.intro ?_ ?_; focus (((repeat' apply And.intro) <;> first | exact rowsOf_w _ | omega | (simp only [List.length_append, rowsOf_len, List.length_cons, List.length_nil, marks_len, List.length_take, List.length_drop, List.length_set]; omega) | exact ⟨_, rfl⟩ | (refine ⟨_, rfl, ?_⟩; omega) | (refine ⟨_, rfl, ?_⟩; simp only [List.length_append, rowsOf_len, List.length_cons, List.length_nil, marks_len, List.length_take, List.length_drop, List.length_set]; omega) | kernel_rfl | (simp; done)); done)))
      by_cases h0 : pickV xs (q + e) 3 = 0
      · rw [if_pos h0]
        (repeat (refine And.intro ?_ ?_; focus (((repeat' apply And.intro) <;> first | exact rowsOf_w _ | omega | (simp only [List.length_append, rowsOf_len, List.length_cons, List.length_nil, marks_len, List.length_take, List.length_drop, List.length_set]; omega) | exact ⟨_, rfl⟩ | (refine ⟨_, rfl, ?_⟩; omega) | (refine ⟨_, rfl, ?_⟩; simp only [List.length_append, rowsOf_len, List.length_cons, List.length_nil, marks_len, List.length_take, List.length_drop, List.length_set]; omega) | kernel_rfl | (simp; done)); done)))
        have hv : mwV xs p n = ⟨pickV xs p 5, pickV xs (q + e + 1) 2 * 256, 1 + pickV xs (p + 1 + 1) 6, bytesV xs (p + 1 + 1 + 1 + 1) N, q + e + 1 + 1⟩ := by rw [mwV, hB, if_pos ho, mwE, ← he, if_pos h0]
        rw [hv]
        exact ⟨_, rfl, rfl, rfl⟩
      · rw [if_neg h0]
        by_cases h1 : pickV xs (q + e) 3 = 1
        · rw [if_pos h1]
          (repeat (refine And.intro ?_ ?_; focus (((repeat' apply And.intro) <;> first | exact rowsOf_w _ | omega | (simp only [List.length_append, rowsOf_len, List.length_cons, List.length_nil, marks_len, List.length_take, List.length_drop, List.length_set]; omega) | exact ⟨_, rfl⟩ | (refine ⟨_, rfl, ?_⟩; omega) | (refine ⟨_, rfl, ?_⟩; simp only [List.length_append, rowsOf_len, List.length_cons, List.length_nil, marks_len, List.length_take, List.length_drop, List.length_set]; omega) | kernel_rfl | (simp; done)); done)))
          have hv : mwV xs p n = ⟨pickV xs p 5, 1 + pickV xs (p + 1) 4, 0 - pickV xs (q + e + 1) 2, bytesV xs (p + 1 + 1 + 1 + 1) N, q + e + 1 + 1⟩ := by rw [mwV, hB, if_pos ho, mwE, ← he, if_neg h0, if_pos h1]
          rw [hv]
          exact ⟨_, rfl, rfl, rfl⟩
        · rw [if_neg h1]
          (repeat (refine And.intro ?_ ?_; focus (((repeat' apply And.intro) <;> first | exact rowsOf_w _ | omega | (simp only [List.length_append, rowsOf_len, List.length_cons, List.length_nil, marks_len, List.length_take, List.length_drop, List.length_set]; omega) | exact ⟨_, rfl⟩ | (refine ⟨_, rfl, ?_⟩; omega) | (refine ⟨_, rfl, ?_⟩; simp only [List.length_append, rowsOf_len, List.length_cons, List.length_nil, marks_len, List.length_take, List.length_drop, List.length_set]; omega) | kernel_rfl | (simp; done)); done)))
          have hv : mwV xs p n = ⟨pickV xs p 5, 1 + pickV xs (p + 1) 4, 1 + pickV xs (p + 1 + 1) 6, List.replicate 41 0, q + e + 1⟩ := by rw [mwV, hB, if_pos ho, mwE, ← he, if_neg h0, if_neg h1]
          rw [hv]
          exact ⟨_, rfl, rfl, rfl⟩
    · rw [if_neg ho]
      (repeat (refine And.intro ?_ ?_; focus (((repeat' apply And.intro) <;> first | exact rowsOf_w _ | omega | (simp only [List.length_append, rowsOf_len, List.length_cons, List.length_nil, marks_len, List.length_take, List.length_drop, List.length_set]; omega) | exact ⟨_, rfl⟩ | (refine ⟨_, rfl, ?_⟩; omega) | (refine ⟨_, rfl, ?_⟩; simp only [List.length_append, rowsOf_len, List.length_cons, List.length_nil, marks_len, List.length_take, List.length_drop, List.length_set]; omega) | kernel_rfl | (simp; done)); done)))
      have hv : mwV xs p n = ⟨pickV xs p 5, 1 + pickV xs (p + 1) 4, 1 + pickV xs (p + 1 + 1) 6, bytesV xs (p + 1 + 1 + 1 + 1) N, q + e⟩ := by rw [mwV, hB, if_neg ho, ← he]
      rw [hv]
      exact ⟨_, rfl, rfl, rfl⟩
  · cases hg
def dmB (xs : List UInt8) : MlW := mwV xs 0 8
def dmT (xs : List UInt8) : Int := pickV xs (dmB xs).q 5 + pickV xs ((dmB xs).q + 1) 20 / 19 * 65536
def dfM (xs : List UInt8) : MlW := mwV xs 0 0
def dfT (xs : List UInt8) : Int := pickV xs (dfM xs).q 5
def dfS2 (xs : List UInt8) : List UInt8 := mlV (mwM (dfM xs)) (dfT xs)
def dfX (xs : List UInt8) : Int := pickV xs ((dfM xs).q + 1) 6
def dfB2 (xs : List UInt8) : List UInt8 := if dfX xs = 0 then (dfS2 xs).set (pickV xs ((dfM xs).q + 1 + 1) (dfS2 xs).length).toNat (toU8 (pickV xs ((dfM xs).q + 1 + 1 + 1) 256)) else if dfX xs = 1 then (dfS2 xs).take (pickV xs ((dfM xs).q + 1 + 1) (dfS2 xs).length).toNat else dfS2 xs
def dfT2 (xs : List UInt8) : Int := if dfX xs = 2 then pickV xs ((dfM xs).q + 1 + 1) 5 else dfT xs
def g_drawMo : PC := fun args => match args with
  | [.l _ rows] => some (∃ xs, rows = rowsOfBytes xs, .agg [.v (.int .i64 (mwV ((bytesOfRows rows).take 2000) 0 2).a), .v (.int .i64 (mwV ((bytesOfRows rows).take 2000) 0 2).f), .v (.int .i64 (mwV ((bytesOfRows rows).take 2000) 0 2).t), .l 1 (rowsOfBytes (mwV ((bytesOfRows rows).take 2000) 0 2).d)], [])
  | _ => none
def g_drawMb : PC := fun args => match args with
  | [.l _ rows] => some (∃ xs, rows = rowsOfBytes xs, .tup [.agg [.v (.int .i64 (dmB ((bytesOfRows rows).take 2000)).a), .v (.int .i64 (dmB ((bytesOfRows rows).take 2000)).f), .v (.int .i64 (dmB ((bytesOfRows rows).take 2000)).t), .l 1 (rowsOfBytes (dmB ((bytesOfRows rows).take 2000)).d)], .v (.int .i64 (dmT ((bytesOfRows rows).take 2000)))], [])
  | _ => none
def g_drawMf : PC := fun args => match args with
  | [.l _ rows] => some (∃ xs, rows = rowsOfBytes xs, .tup [.v (.int .i64 (dfM ((bytesOfRows rows).take 2000)).a), .v (.int .i64 (dfT2 ((bytesOfRows rows).take 2000))), .l 1 (rowsOfBytes (dfB2 ((bytesOfRows rows).take 2000)))], [])
  | _ => none
def ndm : List (FuncId × Abs) := [(56, ownAbs g_open), (61, ownAbs g_pick), (55, ownAbs g_mail), (22, pureAbs g_mailBytes)]
theorem ndm_ok : ∀ p ∈ ndm, CallOk Try.prog p.1 p.2 := by
  intro p hp
  simp only [ndm, List.mem_cons, List.not_mem_nil, or_false] at hp
  rcases hp with rfl | rfl | rfl | rfl
  · exact open_ok.call
  · exact pick_ok.call
  · exact l20Mail_ok.call
  · exact specMailBytes_ok.call
set_option maxRecDepth 100000 in
theorem drawMailOk_ok : OwnOk Try.prog 15 (ocOf g_drawMo) := by
  refine OwnOk.of_vcD (G := ndm) ndm_ok mixed Try.func15 (by kernel_rfl) rfl ?_
  intro args cnd r bs hg hc
  unfold g_drawMo at hg
  split at hg
  · rename_i sz rows
    cases hg
    obtain ⟨xs, rfl⟩ := hc
    rw [bytesOf_rows]
    have hx : (∃ ys, rowsOfBytes (List.take 2000 xs) = rowsOfBytes ys ∧ ys.length ≤ 2000) = True := eq_true ⟨_, rfl, by rw [List.length_take]; omega⟩
    refine ⟨⟨rfl, by simp [AV.ids, AV.ids.idsL]⟩, [.l 1 (rowsOfBytes xs)], rfl, fun w Z s vs h => CvL.ok (.cons (.l _ _ _ (rowsOf_w xs)) .nil) h, ?_⟩
    simp (maxSteps := 3000000) only [Try.f15, ndm, g_open, g_mail, bytesOf_rows, rowsOf_len, hx, tYs, evL, implies_true, oMin, oCopy, oBin, oUn, oLoadKid, oStoreTree, oField, oExtract, oNil, oSliceQ, oLoadRow, takeCells, TS.atRow, TS.ex, treeMode, AV.isOwn, TK.isSl, nilTk, nilsB, oLenQ, oLen, nodupB, treeOf, kidAbs, kidRows, TK.isCell, D.toL, oLoad, oStore, oMake, oIndexAddr, ↓reduceIte, reduceCtorEq, Nat.reduceBEq, Nat.reduceAdd, Nat.reduceMul, Nat.reduceLT, Nat.reduceSub, Nat.reduceLeDiff, Nat.reduceEqDiff, Nat.reduceBneDiff, Int.reduceToNat, decide_eq_true_eq, decide_eq_false_iff_not, beq_iff_eq, Int.toNat_natCast, doneD_ret, doneD_normal]
    (repeat (refine And.intro ?_ ?_; focus (((repeat' apply And.intro) <;> first | exact rowsOf_w _ | omega | (simp only [List.length_append, rowsOf_len, List.length_cons, List.length_nil, marks_len, List.length_take, List.length_drop, List.length_set]; omega) | exact ⟨_, rfl⟩ | (refine ⟨_, rfl, ?_⟩; omega) | (refine ⟨_, rfl, ?_⟩; simp only [List.length_append, rowsOf_len, List.length_cons, List.length_nil, marks_len, List.length_take, List.length_drop, List.length_set]; omega) | kernel_rfl | (simp; done)); done)))
    exact ⟨_, rfl, rfl⟩
  · cases hg
set_option maxRecDepth 100000 in
theorem drawMailBytes_ok : OwnOk Try.prog 19 (ocOf g_drawMb) := by
  refine OwnOk.of_vcD (G := ndm) ndm_ok mixed Try.func19 (by kernel_rfl) rfl ?_
  intro args cnd r bs hg hc
  unfold g_drawMb at hg
  split at hg
  · rename_i sz rows
    cases hg
    obtain ⟨xs, rfl⟩ := hc
    rw [bytesOf_rows]
    have hx : (∃ ys, rowsOfBytes (List.take 2000 xs) = rowsOfBytes ys ∧ ys.length ≤ 2000) = True := eq_true ⟨_, rfl, by rw [List.length_take]; omega⟩
    obtain ⟨ys, hys⟩ : ∃ ys, ys = List.take 2000 xs := ⟨_, rfl⟩
    rw [← hys] at hx ⊢
    have hW := mwV_q ys 0 8
    obtain ⟨q, hq⟩ : ∃ q, q = (mwV ys 0 8).q := ⟨_, rfl⟩
    have hq' := hq.symm
    rw [hq'] at hW
    have a1 := pickV_nonneg ys q 5 (by omega)
    have a2 := pickV_lt ys q 5 (by omega)
    have a3 := pickV_nonneg ys (q + 1) 20 (by omega)
    have a4 := pickV_lt ys (q + 1) 20 (by omega)
    have hdv : (pickV ys (q + 1) 20).tdiv 19 = pickV ys (q + 1) 20 / 19 := Int.tdiv_eq_ediv_of_nonneg a3
    have hd0 : 0 ≤ pickV ys (q + 1) 20 / 19 ∧ pickV ys (q + 1) 20 / 19 ≤ 1 := by omega
    have w1 : IntKind.i64.wrap (pickV ys (q + 1) 20 / 19) = pickV ys (q + 1) 20 / 19 := wrap_id (by omega) (by omega)
    have w2 : IntKind.i64.wrap (pickV ys (q + 1) 20 / 19 * 65536) = pickV ys (q + 1) 20 / 19 * 65536 := wrap_id (by omega) (by omega)
    have w3 : IntKind.i64.wrap (pickV ys q 5 + pickV ys (q + 1) 20 / 19 * 65536) = pickV ys q 5 + pickV ys (q + 1) 20 / 19 * 65536 := wrap_id (by omega) (by omega)
    have hv : dmT ys = pickV ys q 5 + pickV ys (q + 1) 20 / 19 * 65536 := by rw [dmT, dmB, hq']
    rw [hv]
    refine ⟨⟨rfl, by simp [AV.ids, AV.ids.idsL]⟩, [.l 1 (rowsOfBytes xs)], rfl, fun w Z s vs h => CvL.ok (.cons (.l _ _ _ (rowsOf_w xs)) .nil) h, ?_⟩
    simp (maxSteps := 3000000) only [Try.f19, ndm, g_open, g_mail, g_pick, bytesOf_rows, rowsOf_len, ← hys, hx, hq', hdv, w1, w2, w3, tYs, evL, implies_true, oMin, oCopy, oBin, oUn, oLoadKid, oStoreTree, oField, oExtract, oNil, oSliceQ, oLoadRow, takeCells, TS.atRow, TS.ex, treeMode, AV.isOwn, TK.isSl, nilTk, nilsB, oLenQ, oLen, nodupB, treeOf, kidAbs, kidRows, TK.isCell, D.toL, oLoad, oStore, oMake, oIndexAddr, ↓reduceIte, reduceCtorEq, Nat.reduceBEq, Nat.reduceAdd, Nat.reduceMul, Nat.reduceLT, Nat.reduceSub, Nat.reduceLeDiff, Nat.reduceEqDiff, Nat.reduceBneDiff, Int.reduceToNat, decide_eq_true_eq, decide_eq_false_iff_not, beq_iff_eq, Int.toNat_natCast, doneD_ret, doneD_normal]
    clear w1 w2 w3 hdv
    (repeat (refine And.intro ?_ ?_; focus (((repeat' apply And.intro) <;> first | exact rowsOf_w _ | omega | (simp only [List.length_append, rowsOf_len, List.length_cons, List.length_nil, marks_len, List.length_take, List.length_drop, List.length_set]; omega) | exact ⟨_, rfl⟩ | (refine ⟨_, rfl, ?_⟩; omega) | (refine ⟨_, rfl, ?_⟩; simp only [List.length_append, rowsOf_len, List.length_cons, List.length_nil, marks_len, List.length_take, List.length_drop, List.length_set]; omega) | kernel_rfl | (simp; done)); done)))
    exact ⟨_, rfl, rfl⟩
  · cases hg
set_option maxHeartbeats 4000000 in
set_option maxRecDepth 100000 in
theorem drawMailFrom_ok : OwnOk Try.prog 25 (ocOf g_drawMf) := by
  refine OwnOk.of_vcD (G := ndm) ndm_ok mixed Try.func25 (by kernel_rfl) rfl ?_
  intro args cnd r bs hg hc
  unfold g_drawMf at hg
  split at hg
  · rename_i sz rows
    cases hg
    obtain ⟨xs, rfl⟩ := hc
    rw [bytesOf_rows]
    have hx : (∃ ys, rowsOfBytes (List.take 2000 xs) = rowsOfBytes ys ∧ ys.length ≤ 2000) = True := eq_true ⟨_, rfl, by rw [List.length_take]; omega⟩
    obtain ⟨ys, hys⟩ : ∃ ys, ys = List.take 2000 xs := ⟨_, rfl⟩
    rw [← hys] at hx ⊢
    have hW := mwV_q ys 0 0
    have hok := mw_ok ys 0 (by omega)
    have hbd := mwV_bd ys 0 0 (by omega)
    have t0 := pickV_nonneg ys (mwV ys 0 0).q 5 (by omega)
    have t1 := pickV_lt ys (mwV ys 0 0).q 5 (by omega)
    have hlen := mlV_len (m := mwM (mwV ys 0 0)) (to := pickV ys (mwV ys 0 0).q 5) (by rw [hok, show inZ (pickV ys (mwV ys 0 0).q 5) 0 65535 = true from inZ_iff.2 (by omega)]; rfl)
    have hld : (mwM (mwV ys 0 0)).d.length ≤ 41 := hW.2.2
    obtain ⟨B, hB⟩ : ∃ B, B = mlV ⟨(mwV ys 0 0).a, (mwV ys 0 0).f, (mwV ys 0 0).t, (mwV ys 0 0).d⟩ (pickV ys (mwV ys 0 0).q 5) := ⟨_, rfl⟩
    have hBs : dfS2 ys = B := hB.symm
    have hB' := hB.symm
    rw [show mlV (mwM (mwV ys 0 0)) (pickV ys (mwV ys 0 0).q 5) = B from hB'] at hlen
    obtain ⟨q, hq⟩ : ∃ q, q = (mwV ys 0 0).q := ⟨_, rfl⟩
    have hq' := hq.symm
    have hqs : (dfM ys).q = q := hq'
    rw [hq'] at hW t0 t1 hB'
    have k1 := pickV_nonneg ys (q + 1 + 1) B.length (by omega)
    have k2 := pickV_lt ys (q + 1 + 1) B.length (by omega)
    have hXs : dfX ys = pickV ys (q + 1) 6 := by rw [dfX, hqs]
    have hTs : dfT ys = pickV ys q 5 := by rw [dfT, hqs]
    refine ⟨⟨rfl, by simp [AV.ids, AV.ids.idsL]⟩, [.l 1 (rowsOfBytes xs)], rfl, fun w Z s vs h => CvL.ok (.cons (.l _ _ _ (rowsOf_w xs)) .nil) h, ?_⟩
    by_cases h0 : pickV ys (q + 1) 6 = 0
    · have c0 : (pickV ys (q + 1) 6 = 0) = True := eq_true h0
      have hv : dfB2 ys = B.set (pickV ys (q + 1 + 1) B.length).toNat (toU8 (pickV ys (q + 1 + 1 + 1) 256)) := by rw [dfB2, hXs, if_pos h0, hBs, hqs]
      have hv2 : dfT2 ys = pickV ys q 5 := by rw [dfT2, hXs, if_neg (by omega), hTs]
      rw [hv, hv2]
      simp (maxSteps := 3000000) only [Try.f25, ndm, g_open, g_mail, g_pick, g_mailBytes, bytesOf_rows, rowsOf_len, rowsOf_take, row_toI, row_nil, row_head, rows_set, ← hys, hx, hB', hq', c0, ↓reduceIte, Bool.false_eq_true, tYs, evL, implies_true, oMin, oCopy, oBin, oUn, oLoadKid, oStoreTree, oField, oExtract, oNil, oSliceQ, oLoadRow, takeCells, TS.atRow, TS.ex, treeMode, AV.isOwn, TK.isSl, nilTk, nilsB, oLenQ, oLen, nodupB, treeOf, kidAbs, kidRows, TK.isCell, D.toL, oLoad, oStore, oMake, oIndexAddr, ↓reduceIte, reduceCtorEq, Nat.reduceBEq, Nat.reduceAdd, Nat.reduceMul, Nat.reduceLT, Nat.reduceSub, Nat.reduceLeDiff, Nat.reduceEqDiff, Nat.reduceBneDiff, Int.reduceToNat, decide_eq_true_eq, decide_eq_false_iff_not, beq_iff_eq, Int.toNat_natCast, doneD_ret, doneD_normal]
      (repeat (refine And.intro ?_ ?_; focus (((repeat' apply And.intro) <;> first | exact rowsOf_w _ | omega | (simp only [List.length_append, rowsOf_len, List.length_cons, List.length_nil, marks_len, List.length_take, List.length_drop, List.length_set]; omega) | exact ⟨_, rfl⟩ | (refine ⟨_, rfl, ?_⟩; omega) | (refine ⟨_, rfl, ?_⟩; simp only [List.length_append, rowsOf_len, List.length_cons, List.length_nil, marks_len, List.length_take, List.length_drop, List.length_set]; omega) | kernel_rfl | (simp; done)); done)))
      exact ⟨_, rfl, rfl⟩
    · have c0 : (pickV ys (q + 1) 6 = 0) = False := eq_false h0
      by_cases h1 : pickV ys (q + 1) 6 = 1
      · have c1 : (pickV ys (q + 1) 6 = 1) = True := eq_true h1
        have hv : dfB2 ys = B.take (pickV ys (q + 1 + 1) B.length).toNat := by rw [dfB2, hXs, if_neg h0, if_pos h1, hBs, hqs]
        have hv2 : dfT2 ys = pickV ys q 5 := by rw [dfT2, hXs, if_neg (by omega), hTs]
        rw [hv, hv2]
        simp (maxSteps := 3000000) only [Try.f25, ndm, g_open, g_mail, g_pick, g_mailBytes, bytesOf_rows, rowsOf_len, rowsOf_take, row_toI, row_nil, row_head, rows_set, ← hys, hx, hB', hq', c0, c1, ↓reduceIte, Bool.false_eq_true, tYs, evL, implies_true, oMin, oCopy, oBin, oUn, oLoadKid, oStoreTree, oField, oExtract, oNil, oSliceQ, oLoadRow, takeCells, TS.atRow, TS.ex, treeMode, AV.isOwn, TK.isSl, nilTk, nilsB, oLenQ, oLen, nodupB, treeOf, kidAbs, kidRows, TK.isCell, D.toL, oLoad, oStore, oMake, oIndexAddr, ↓reduceIte, reduceCtorEq, Nat.reduceBEq, Nat.reduceAdd, Nat.reduceMul, Nat.reduceLT, Nat.reduceSub, Nat.reduceLeDiff, Nat.reduceEqDiff, Nat.reduceBneDiff, Int.reduceToNat, decide_eq_true_eq, decide_eq_false_iff_not, beq_iff_eq, Int.toNat_natCast, doneD_ret, doneD_normal]
        (repeat (refine And.intro ?_ ?_; focus (((repeat' apply And.intro) <;> first | exact rowsOf_w _ | omega | (simp only [List.length_append, rowsOf_len, List.length_cons, List.length_nil, marks_len, List.length_take, List.length_drop, List.length_set]; omega) | exact ⟨_, rfl⟩ | (refine ⟨_, rfl, ?_⟩; omega) | (refine ⟨_, rfl, ?_⟩; simp only [List.length_append, rowsOf_len, List.length_cons, List.length_nil, marks_len, List.length_take, List.length_drop, List.length_set]; omega) | kernel_rfl | (simp; done)); done)))
        refine ⟨_, rfl, ?_⟩
        show AV.tup [_, _, AV.l 1 (((rowsOfBytes B).take (pickV ys (q + 1 + 1) B.length).toNat).drop 0)] = _
        rw [List.drop_zero, rowsOf_take]
        rfl
      · have c1 : (pickV ys (q + 1) 6 = 1) = False := eq_false h1
        have hv : dfB2 ys = B := by rw [dfB2, hXs, if_neg h0, if_neg h1, hBs]
        by_cases h2 : pickV ys (q + 1) 6 = 2
        · have c2 : (pickV ys (q + 1) 6 = 2) = True := eq_true h2
          have hv2 : dfT2 ys = pickV ys (q + 1 + 1) 5 := by rw [dfT2, hXs, if_pos h2, hqs]
          rw [hv, hv2]
          simp (maxSteps := 3000000) only [Try.f25, ndm, g_open, g_mail, g_pick, g_mailBytes, bytesOf_rows, rowsOf_len, rowsOf_take, row_toI, row_nil, row_head, rows_set, ← hys, hx, hB', hq', c0, c1, c2, ↓reduceIte, Bool.false_eq_true, tYs, evL, implies_true, oMin, oCopy, oBin, oUn, oLoadKid, oStoreTree, oField, oExtract, oNil, oSliceQ, oLoadRow, takeCells, TS.atRow, TS.ex, treeMode, AV.isOwn, TK.isSl, nilTk, nilsB, oLenQ, oLen, nodupB, treeOf, kidAbs, kidRows, TK.isCell, D.toL, oLoad, oStore, oMake, oIndexAddr, ↓reduceIte, reduceCtorEq, Nat.reduceBEq, Nat.reduceAdd, Nat.reduceMul, Nat.reduceLT, Nat.reduceSub, Nat.reduceLeDiff, Nat.reduceEqDiff, Nat.reduceBneDiff, Int.reduceToNat, decide_eq_true_eq, decide_eq_false_iff_not, beq_iff_eq, Int.toNat_natCast, doneD_ret, doneD_normal]
          (repeat (refine And.intro ?_ ?_; focus (((repeat' apply And.intro) <;> first | exact rowsOf_w _ | omega | (simp only [List.length_append, rowsOf_len, List.length_cons, List.length_nil, marks_len, List.length_take, List.length_drop, List.length_set]; omega) | exact ⟨_, rfl⟩ | (refine ⟨_, rfl, ?_⟩; omega) | (refine ⟨_, rfl, ?_⟩; simp only [List.length_append, rowsOf_len, List.length_cons, List.length_nil, marks_len, List.length_take, List.length_drop, List.length_set]; omega) | kernel_rfl | (simp; done)); done)))
          exact ⟨_, rfl, rfl⟩
        · have c2 : (pickV ys (q + 1) 6 = 2) = False := eq_false h2
          have hv2 : dfT2 ys = pickV ys q 5 := by rw [dfT2, hXs, if_neg h2, hTs]
          rw [hv, hv2]
          simp (maxSteps := 3000000) only [Try.f25, ndm, g_open, g_mail, g_pick, g_mailBytes, bytesOf_rows, rowsOf_len, rowsOf_take, row_toI, row_nil, row_head, rows_set, ← hys, hx, hB', hq', c0, c1, c2, ↓reduceIte, Bool.false_eq_true, tYs, evL, implies_true, oMin, oCopy, oBin, oUn, oLoadKid, oStoreTree, oField, oExtract, oNil, oSliceQ, oLoadRow, takeCells, TS.atRow, TS.ex, treeMode, AV.isOwn, TK.isSl, nilTk, nilsB, oLenQ, oLen, nodupB, treeOf, kidAbs, kidRows, TK.isCell, D.toL, oLoad, oStore, oMake, oIndexAddr, ↓reduceIte, reduceCtorEq, Nat.reduceBEq, Nat.reduceAdd, Nat.reduceMul, Nat.reduceLT, Nat.reduceSub, Nat.reduceLeDiff, Nat.reduceEqDiff, Nat.reduceBneDiff, Int.reduceToNat, decide_eq_true_eq, decide_eq_false_iff_not, beq_iff_eq, Int.toNat_natCast, doneD_ret, doneD_normal]
          (repeat (refine And.intro ?_ ?_; focus (((repeat' apply And.intro) <;> first | exact rowsOf_w _ | omega | (simp only [List.length_append, rowsOf_len, List.length_cons, List.length_nil, marks_len, List.length_take, List.length_drop, List.length_set]; omega) | exact ⟨_, rfl⟩ | (refine ⟨_, rfl, ?_⟩; omega) | (refine ⟨_, rfl, ?_⟩; simp only [List.length_append, rowsOf_len, List.length_cons, List.length_nil, marks_len, List.length_take, List.length_drop, List.length_set]; omega) | kernel_rfl | (simp; done)); done)))
          exact ⟨_, rfl, rfl⟩
  · cases hg
def g_sameMail : PC := fun args => match args with
  | [.agg [.v (.int .i64 a), .v (.int .i64 f), .v (.int .i64 t), .l _ rows], .agg [.v (.int .i64 a'), .v (.int .i64 f'), .v (.int .i64 t'), .l _ rows']] => some ((∃ xs, rows = rowsOfBytes xs) ∧ (∃ ys, rows' = rowsOfBytes ys), .v (.bool (decide (a = a' ∧ f = f' ∧ t = t' ∧ bytesOfRows rows = bytesOfRows rows'))), [])
  | _ => none
def ls0 : List (FuncId × Abs) := [(21, pureAbs g_sameBytes)]
theorem ls0_ok : ∀ p ∈ ls0, CallOk Try.prog p.1 p.2 := by
  intro p hp
  simp only [ls0, List.mem_cons, List.not_mem_nil, or_false] at hp
  rcases hp with rfl
  · exact sameBytes_ok.call
set_option maxRecDepth 100000 in
theorem sameMail_ok : PureOk Try.prog 24 g_sameMail := by
  refine PureOk.of_vc (G := ls0) ls0_ok mixed Try.func24 (by kernel_rfl) rfl ?_
  intro args cnd r bs hg hc
  unfold g_sameMail at hg
  split at hg
  · rename_i a f t sz rows a' f' t' sz' rows'
    cases hg
    obtain ⟨⟨xs, rfl⟩, ys, rfl⟩ := hc
    rw [bytesOf_rows, bytesOf_rows]
    refine ⟨⟨rfl, by simp, by simp [AV.ids, AV.ids.idsL]⟩, [.agg [.v (.int .i64 a), .v (.int .i64 f), .v (.int .i64 t), .l 1 (rowsOfBytes xs)], .agg [.v (.int .i64 a'), .v (.int .i64 f'), .v (.int .i64 t'), .l 1 (rowsOfBytes ys)]], rfl, fun w vs h => CvL.ok (.cons (.cons (.refl _) (.cons (.refl _) (.cons (.refl _) (.cons (.l _ _ _ (rowsOf_w xs)) .nil)))) (.cons (.cons (.refl _) (.cons (.refl _) (.cons (.refl _) (.cons (.l _ _ _ (rowsOf_w ys)) .nil)))) .nil)) h, ?_⟩
    simp (maxSteps := 3000000) only [Try.f24, ls0, g_sameBytes, bytesOf_rows, tYs, evL, implies_true, oMin, oCopy, oBin, oUn, oLoadKid, oStoreTree, oField, oExtract, oNil, oSliceQ, oLoadRow, takeCells, TS.atRow, TS.ex, treeMode, AV.isOwn, TK.isSl, nilTk, nilsB, oLenQ, oLen, nodupB, treeOf, kidAbs, kidRows, TK.isCell, D.toL, oLoad, oStore, oMake, oIndexAddr, ↓reduceIte, reduceCtorEq, Nat.reduceBEq, Nat.reduceAdd, Nat.reduceMul, Nat.reduceLT, Nat.reduceSub, Nat.reduceLeDiff, Nat.reduceEqDiff, Nat.reduceBneDiff, Int.reduceToNat, decide_eq_true_eq, decide_eq_false_iff_not, beq_iff_eq, Int.toNat_natCast]
    by_cases e0 : a = a'
    · rw [if_pos e0]
      by_cases e1 : f = f'
      · rw [if_pos e1]
        by_cases e2 : t = t'
        · rw [if_pos e2]
          (repeat (refine And.intro ?_ ?_; focus (((repeat' apply And.intro) <;> first | exact rowsOf_w _ | omega | (simp only [List.length_append, rowsOf_len, List.length_cons, List.length_nil, marks_len, List.length_take, List.length_drop, List.length_set]; omega) | exact ⟨_, rfl⟩ | (refine ⟨_, rfl, ?_⟩; omega) | (refine ⟨_, rfl, ?_⟩; simp only [List.length_append, rowsOf_len, List.length_cons, List.length_nil, marks_len, List.length_take, List.length_drop, List.length_set]; omega) | kernel_rfl | (simp; done)); done)))
          have e : decide (a = a' ∧ f = f' ∧ t = t' ∧ xs = ys) = (xs == ys) := by rw [Bool.eq_iff_iff, decide_eq_true_eq, beq_iff_eq]; exact ⟨fun k => k.2.2.2, fun k => ⟨e0, e1, e2, k⟩⟩
          rw [e]
          exact ⟨_, [], rfl, ⟨⟨⟨rfl, rfl, rfl⟩, trivial⟩, trivial, by simp [rn, hpAt]⟩⟩
        · rw [if_neg e2]
          have e : decide (a = a' ∧ f = f' ∧ t = t' ∧ xs = ys) = false := by rw [decide_eq_false_iff_not]; exact fun k => e2 k.2.2.1
          rw [e]
          exact ⟨_, [], rfl, ⟨⟨⟨rfl, rfl, rfl⟩, trivial⟩, trivial, by simp [rn, hpAt]⟩⟩
      · rw [if_neg e1]
        have e : decide (a = a' ∧ f = f' ∧ t = t' ∧ xs = ys) = false := by rw [decide_eq_false_iff_not]; exact fun k => e1 k.2.1
        rw [e]
        exact ⟨_, [], rfl, ⟨⟨⟨rfl, rfl, rfl⟩, trivial⟩, trivial, by simp [rn, hpAt]⟩⟩
    · rw [if_neg e0]
      have e : decide (a = a' ∧ f = f' ∧ t = t' ∧ xs = ys) = false := by rw [decide_eq_false_iff_not]; exact fun k => e0 k.1
      rw [e]
      exact ⟨_, [], rfl, ⟨⟨⟨rfl, rfl, rfl⟩, trivial⟩, trivial, by simp [rn, hpAt]⟩⟩
  · cases hg
def lla : List (FuncId × Abs) := [(18, pureAbs g_alive), (16, pureAbs g_mailOk), (17, pureAbs g_mailOk), (15, ownAbs (ocOf g_drawMo))]
theorem lla_ok : ∀ p ∈ lla, CallOk Try.prog p.1 p.2 := by
  intro p hp
  simp only [lla, List.mem_cons, List.not_mem_nil, or_false] at hp
  rcases hp with rfl | rfl | rfl | rfl
  · exact alive_ok.call
  · exact implMailOk_ok.call
  · exact specMailOk_ok.call
  · exact drawMailOk_ok.call
set_option maxHeartbeats 8000000 in
set_option maxRecDepth 100000 in
theorem lawMailOk_ok : PureOk Try.prog 3 g_true := by
  refine PureOk.of_vc (G := lla) lla_ok mixed Try.func3 (by kernel_rfl) rfl ?_
  intro args cnd r bs hg hc
  unfold g_true at hg
  split at hg
  · rename_i sz rows
    cases hg
    obtain ⟨xs, rfl⟩ := hc
    refine ⟨⟨rfl, by simp, by simp [AV.ids, AV.ids.idsL]⟩, [.l 1 (rowsOfBytes xs)], rfl, fun w vs h => CvL.ok (.cons (.l _ _ _ (rowsOf_w xs)) .nil) h, ?_⟩
    obtain ⟨ys, hys⟩ : ∃ ys, ys = List.take 2000 xs := ⟨_, rfl⟩
    by_cases h20 : (xs.length : Int) > 1048576
    · have e20 : ((xs.length : Int) > 1048576) = True := eq_true h20
      simp (maxSteps := 3000000) only [Try.f3, lla, e20, g_alive, g_mailOk, ocOf, g_drawMo, bytesOf_rows, rowsOf_len, ↓reduceIte, Bool.false_eq_true, Bool.not_true, Bool.not_false, tYs, evL, implies_true, oMin, oCopy, oBin, oUn, oLoadKid, oStoreTree, oField, oExtract, oNil, oSliceQ, oLoadRow, takeCells, TS.atRow, TS.ex, treeMode, AV.isOwn, TK.isSl, nilTk, nilsB, oLenQ, oLen, nodupB, treeOf, kidAbs, kidRows, TK.isCell, D.toL, oLoad, oStore, oMake, oIndexAddr, ↓reduceIte, reduceCtorEq, Nat.reduceBEq, Nat.reduceAdd, Nat.reduceMul, Nat.reduceLT, Nat.reduceSub, Nat.reduceLeDiff, Nat.reduceEqDiff, Nat.reduceBneDiff, Int.reduceToNat, decide_eq_true_eq, decide_eq_false_iff_not, beq_iff_eq, Int.toNat_natCast, loopK_normal, loopK_exit, loopK_ret, bne_self_eq_false]
      exact ⟨_, [], rfl, ⟨⟨⟨rfl, rfl, rfl⟩, trivial⟩, trivial, by simp [rn, hpAt]⟩⟩
    have e20 : ((xs.length : Int) > 1048576) = False := eq_false h20
    have hb := mwV_q ys 0 2
    obtain ⟨V, hV⟩ : ∃ V, V = mwV ys 0 2 := ⟨_, rfl⟩
    have hV' := hV.symm
    rw [hV'] at hb
    clear hV
    have h3 : mlK V.a 0 V.t V.d.length = false := by rw [mlK, show inZ 0 1 255 = false from rfl]; simp
    rcases hok : mlK V.a V.f V.t V.d.length with _ | _
    · have h2 : mlK V.a V.t V.f V.d.length = false := by rw [← hok, mlK, mlK, Bool.and_assoc, Bool.and_assoc, Bool.and_assoc, Bool.and_assoc, Bool.and_left_comm (inZ V.t 1 255)]
      simp (maxSteps := 3000000) only [Try.f3, lla, e20, ← hys, hV', hok, h2, h3, g_alive, g_mailOk, ocOf, g_drawMo, bytesOf_rows, rowsOf_len, ↓reduceIte, Bool.false_eq_true, Bool.not_true, Bool.not_false, tYs, evL, implies_true, oMin, oCopy, oBin, oUn, oLoadKid, oStoreTree, oField, oExtract, oNil, oSliceQ, oLoadRow, takeCells, TS.atRow, TS.ex, treeMode, AV.isOwn, TK.isSl, nilTk, nilsB, oLenQ, oLen, nodupB, treeOf, kidAbs, kidRows, TK.isCell, D.toL, oLoad, oStore, oMake, oIndexAddr, ↓reduceIte, reduceCtorEq, Nat.reduceBEq, Nat.reduceAdd, Nat.reduceMul, Nat.reduceLT, Nat.reduceSub, Nat.reduceLeDiff, Nat.reduceEqDiff, Nat.reduceBneDiff, Int.reduceToNat, decide_eq_true_eq, decide_eq_false_iff_not, beq_iff_eq, Int.toNat_natCast, loopK_normal, loopK_exit, loopK_ret, bne_self_eq_false]
      (repeat (first | (refine And.intro ?_ ?_; focus (((repeat' apply And.intro) <;> first | exact rowsOf_w _ | omega | (simp only [List.length_append, rowsOf_len, List.length_cons, List.length_nil, marks_len, List.length_take, List.length_drop, List.length_set]; omega) | exact ⟨_, rfl⟩ | (refine ⟨_, rfl, ?_⟩; omega) | (refine ⟨_, rfl, ?_⟩; simp only [List.length_append, rowsOf_len, List.length_cons, List.length_nil, marks_len, List.length_take, List.length_drop, List.length_set]; omega) | kernel_rfl | (simp; done)); done)) | (rw [if_neg]; rotate_left; focus (omega; done)) | (rw [if_pos]; rotate_left; focus (omega; done))))
      (refine ⟨_, [], rfl, ⟨⟨⟨?_, rfl, rfl⟩, trivial⟩, by simp [hpAt, fitH], by simp [hpAt]⟩⟩; refine congrArg (fun b => AV.v (Value.bool b)) ?_; first | rfl | (rw [Bool.eq_iff_iff]; simp only [decide_eq_true_eq, frB, inZ, Bool.false_eq_true, beq_eq_false_iff_ne, beq_iff_eq, ne_eq, decide_eq_false_iff_not, Bool.not_eq_eq_eq_not, Bool.not_true, Bool.not_false, false_iff, iff_false, true_iff, iff_true] at *; omega))
    · have h2 : mlK V.a V.t V.f V.d.length = true := by rw [← hok, mlK, mlK, Bool.and_assoc, Bool.and_assoc, Bool.and_assoc, Bool.and_assoc, Bool.and_left_comm (inZ V.t 1 255)]
      simp (maxSteps := 3000000) only [Try.f3, lla, e20, ← hys, hV', hok, h2, h3, g_alive, g_mailOk, ocOf, g_drawMo, bytesOf_rows, rowsOf_len, ↓reduceIte, Bool.false_eq_true, Bool.not_true, Bool.not_false, tYs, evL, implies_true, oMin, oCopy, oBin, oUn, oLoadKid, oStoreTree, oField, oExtract, oNil, oSliceQ, oLoadRow, takeCells, TS.atRow, TS.ex, treeMode, AV.isOwn, TK.isSl, nilTk, nilsB, oLenQ, oLen, nodupB, treeOf, kidAbs, kidRows, TK.isCell, D.toL, oLoad, oStore, oMake, oIndexAddr, ↓reduceIte, reduceCtorEq, Nat.reduceBEq, Nat.reduceAdd, Nat.reduceMul, Nat.reduceLT, Nat.reduceSub, Nat.reduceLeDiff, Nat.reduceEqDiff, Nat.reduceBneDiff, Int.reduceToNat, decide_eq_true_eq, decide_eq_false_iff_not, beq_iff_eq, Int.toNat_natCast, loopK_normal, loopK_exit, loopK_ret, bne_self_eq_false]
      (repeat (first | (refine And.intro ?_ ?_; focus (((repeat' apply And.intro) <;> first | exact rowsOf_w _ | omega | (simp only [List.length_append, rowsOf_len, List.length_cons, List.length_nil, marks_len, List.length_take, List.length_drop, List.length_set]; omega) | exact ⟨_, rfl⟩ | (refine ⟨_, rfl, ?_⟩; omega) | (refine ⟨_, rfl, ?_⟩; simp only [List.length_append, rowsOf_len, List.length_cons, List.length_nil, marks_len, List.length_take, List.length_drop, List.length_set]; omega) | kernel_rfl | (simp; done)); done)) | (rw [if_neg]; rotate_left; focus (omega; done)) | (rw [if_pos]; rotate_left; focus (omega; done))))
      (refine ⟨_, [], rfl, ⟨⟨⟨?_, rfl, rfl⟩, trivial⟩, by simp [hpAt, fitH], by simp [hpAt]⟩⟩; refine congrArg (fun b => AV.v (Value.bool b)) ?_; first | rfl | (rw [Bool.eq_iff_iff]; simp only [decide_eq_true_eq, frB, inZ, Bool.false_eq_true, beq_eq_false_iff_ne, beq_iff_eq, ne_eq, decide_eq_false_iff_not, Bool.not_eq_eq_eq_not, Bool.not_true, Bool.not_false, false_iff, iff_false, true_iff, iff_true] at *; omega))
  · cases hg
def llb : List (FuncId × Abs) := [(18, pureAbs g_alive), (21, pureAbs g_sameBytes), (24, pureAbs g_sameMail), (20, pureAbs g_mailBytes), (22, pureAbs g_mailBytes), (23, pureAbs g_mailFrom), (19, ownAbs (ocOf g_drawMb))]
theorem llb_ok : ∀ p ∈ llb, CallOk Try.prog p.1 p.2 := by
  intro p hp
  simp only [llb, List.mem_cons, List.not_mem_nil, or_false] at hp
  rcases hp with rfl | rfl | rfl | rfl | rfl | rfl | rfl
  · exact alive_ok.call
  · exact sameBytes_ok.call
  · exact sameMail_ok.call
  · exact implMailBytes_ok.call
  · exact specMailBytes_ok.call
  · exact implMailFrom_ok.call
  · exact drawMailBytes_ok.call
set_option maxHeartbeats 8000000 in
set_option maxRecDepth 100000 in
theorem lawMailBytes_ok : PureOk Try.prog 4 g_true := by
  refine PureOk.of_vc (G := llb) llb_ok mixed Try.func4 (by kernel_rfl) rfl ?_
  intro args cnd r bs hg hc
  unfold g_true at hg
  split at hg
  · rename_i sz rows
    cases hg
    obtain ⟨xs, rfl⟩ := hc
    refine ⟨⟨rfl, by simp, by simp [AV.ids, AV.ids.idsL]⟩, [.l 1 (rowsOfBytes xs)], rfl, fun w vs h => CvL.ok (.cons (.l _ _ _ (rowsOf_w xs)) .nil) h, ?_⟩
    obtain ⟨ys, hys⟩ : ∃ ys, ys = List.take 2000 xs := ⟨_, rfl⟩
    by_cases h20 : (xs.length : Int) > 1048576
    · have e20 : ((xs.length : Int) > 1048576) = True := eq_true h20
      simp (maxSteps := 3000000) only [Try.f4, llb, e20, g_alive, g_sameBytes, g_sameMail, g_mailBytes, g_mailFrom, ocOf, g_drawMb, bytesOf_rows, rowsOf_len, ↓reduceIte, Bool.false_eq_true, Bool.not_true, Bool.not_false, tYs, evL, implies_true, oMin, oCopy, oBin, oUn, oLoadKid, oStoreTree, oField, oExtract, oNil, oSliceQ, oLoadRow, takeCells, TS.atRow, TS.ex, treeMode, AV.isOwn, TK.isSl, nilTk, nilsB, oLenQ, oLen, nodupB, treeOf, kidAbs, kidRows, TK.isCell, D.toL, oLoad, oStore, oMake, oIndexAddr, ↓reduceIte, reduceCtorEq, Nat.reduceBEq, Nat.reduceAdd, Nat.reduceMul, Nat.reduceLT, Nat.reduceSub, Nat.reduceLeDiff, Nat.reduceEqDiff, Nat.reduceBneDiff, Int.reduceToNat, decide_eq_true_eq, decide_eq_false_iff_not, beq_iff_eq, Int.toNat_natCast, loopK_normal, loopK_exit, loopK_ret, bne_self_eq_false]
      exact ⟨_, [], rfl, ⟨⟨⟨rfl, rfl, rfl⟩, trivial⟩, trivial, by simp [rn, hpAt]⟩⟩
    have e20 : ((xs.length : Int) > 1048576) = False := eq_false h20
    have hb := mwV_q ys 0 8
    have hbd := mwV_bd ys 0 8 (by omega)
    obtain ⟨V, hV⟩ : ∃ V, V = mwV ys 0 8 := ⟨_, rfl⟩
    have hV' : dmB ys = V := hV.symm
    rw [← hV] at hb hbd
    have t0 := pickV_nonneg ys V.q 5 (by omega)
    have t1 := pickV_lt ys V.q 5 (by omega)
    have t2 := pickV_nonneg ys (V.q + 1) 20 (by omega)
    have t3 := pickV_lt ys (V.q + 1) 20 (by omega)
    obtain ⟨T, hT⟩ : ∃ T, T = dmT ys := ⟨_, rfl⟩
    have hT' := hT.symm
    have hTb : 0 ≤ T ∧ T ≤ 70000 := by rw [hT, dmT, hV']; omega
    clear hV hT
    obtain ⟨B, hB⟩ : ∃ B, B = mlV ⟨V.a, V.f, V.t, V.d⟩ T := ⟨_, rfl⟩
    have hB' := hB.symm
    have w1 : IntKind.i64.wrap (V.a + 1) = V.a + 1 := wrap_id (by omega) (by omega)
    have w2 : IntKind.i64.wrap (T + 1) = T + 1 := wrap_id (by omega) (by omega)
    rcases hok : (mlB ⟨V.a, V.f, V.t, V.d⟩ && inZ T 0 65535) with _ | _
    · have hE : B = [] := by rw [hB, mlV, if_neg (by rw [hok]; decide)]
      subst hE
      have hz : (([] : List UInt8).length : Int) = 0 := rfl
      simp (maxSteps := 3000000) only [Try.f4, llb, e20, ← hys, hV', hT', hB', hz, List.length_nil, g_alive, g_sameBytes, g_sameMail, g_mailBytes, g_mailFrom, ocOf, g_drawMb, bytesOf_rows, rowsOf_len, ↓reduceIte, Bool.false_eq_true, Bool.not_true, Bool.not_false, tYs, evL, implies_true, oMin, oCopy, oBin, oUn, oLoadKid, oStoreTree, oField, oExtract, oNil, oSliceQ, oLoadRow, takeCells, TS.atRow, TS.ex, treeMode, AV.isOwn, TK.isSl, nilTk, nilsB, oLenQ, oLen, nodupB, treeOf, kidAbs, kidRows, TK.isCell, D.toL, oLoad, oStore, oMake, oIndexAddr, ↓reduceIte, reduceCtorEq, Nat.reduceBEq, Nat.reduceAdd, Nat.reduceMul, Nat.reduceLT, Nat.reduceSub, Nat.reduceLeDiff, Nat.reduceEqDiff, Nat.reduceBneDiff, Int.reduceToNat, decide_eq_true_eq, decide_eq_false_iff_not, beq_iff_eq, Int.toNat_natCast, loopK_normal, loopK_exit, loopK_ret, bne_self_eq_false]
      (repeat (first | (refine And.intro ?_ ?_; focus (((repeat' apply And.intro) <;> first | exact rowsOf_w _ | omega | (simp only [List.length_append, rowsOf_len, List.length_cons, List.length_nil, marks_len, List.length_take, List.length_drop, List.length_set]; omega) | exact ⟨_, rfl⟩ | (refine ⟨_, rfl, ?_⟩; omega) | (refine ⟨_, rfl, ?_⟩; simp only [List.length_append, rowsOf_len, List.length_cons, List.length_nil, marks_len, List.length_take, List.length_drop, List.length_set]; omega) | kernel_rfl | (simp; done)); done)) | (rw [if_neg]; rotate_left; focus (omega; done)) | (rw [if_pos]; rotate_left; focus (omega; done))))
      (refine ⟨_, [], rfl, ⟨⟨⟨?_, rfl, rfl⟩, trivial⟩, by simp [hpAt, fitH], by simp [hpAt]⟩⟩; refine congrArg (fun b => AV.v (Value.bool b)) ?_; first | rfl | (rw [Bool.eq_iff_iff]; simp only [decide_eq_true_eq, frB, inZ, Bool.false_eq_true, beq_eq_false_iff_ne, beq_iff_eq, ne_eq, decide_eq_false_iff_not, Bool.not_eq_eq_eq_not, Bool.not_true, Bool.not_false, false_iff, iff_false, true_iff, iff_true] at *; omega))
    · obtain ⟨k0, k1, k2, k3⟩ := ml_back hok
      have hl := mlV_len hok
      rw [hB'] at k0 k1 k2 k3 hl
      have hne : ((B.length : Int) = 0) = False := eq_false (by omega)
      have hneb : ((B.length : Int) == 0) = false := by rw [beq_eq_false_iff_ne]; omega
      dsimp only at k0 k1 k2 k3 hl
      obtain ⟨n1, n2, n3, n4⟩ := mf_pos k0
      have r2 : ((B.getD 0 0).toNat : Int) = V.f := congrArg Ml.f k1
      have r3 : ((B.getD 1 0).toNat : Int) = V.t := congrArg Ml.t k1
      have r4 : (B.drop 3).take (B.length - 5) = V.d := congrArg Ml.d k1
      rw [r2] at n2
      rw [r3] at n3
      rw [r4] at n4
      simp (maxSteps := 3000000) only [Try.f4, llb, e20, ← hys, hV', hT', hB', hne, hneb, k0, k2, k3, n1, n2, n3, n4, w1, w2, g_alive, g_sameBytes, g_sameMail, g_mailBytes, g_mailFrom, ocOf, g_drawMb, bytesOf_rows, rowsOf_len, ↓reduceIte, Bool.false_eq_true, Bool.not_true, Bool.not_false, tYs, evL, implies_true, oMin, oCopy, oBin, oUn, oLoadKid, oStoreTree, oField, oExtract, oNil, oSliceQ, oLoadRow, takeCells, TS.atRow, TS.ex, treeMode, AV.isOwn, TK.isSl, nilTk, nilsB, oLenQ, oLen, nodupB, treeOf, kidAbs, kidRows, TK.isCell, D.toL, oLoad, oStore, oMake, oIndexAddr, ↓reduceIte, reduceCtorEq, Nat.reduceBEq, Nat.reduceAdd, Nat.reduceMul, Nat.reduceLT, Nat.reduceSub, Nat.reduceLeDiff, Nat.reduceEqDiff, Nat.reduceBneDiff, Int.reduceToNat, decide_eq_true_eq, decide_eq_false_iff_not, beq_iff_eq, Int.toNat_natCast, loopK_normal, loopK_exit, loopK_ret, bne_self_eq_false]
      (repeat (first | (refine And.intro ?_ ?_; focus (((repeat' apply And.intro) <;> first | exact rowsOf_w _ | omega | (simp only [List.length_append, rowsOf_len, List.length_cons, List.length_nil, marks_len, List.length_take, List.length_drop, List.length_set]; omega) | exact ⟨_, rfl⟩ | (refine ⟨_, rfl, ?_⟩; omega) | (refine ⟨_, rfl, ?_⟩; simp only [List.length_append, rowsOf_len, List.length_cons, List.length_nil, marks_len, List.length_take, List.length_drop, List.length_set]; omega) | kernel_rfl | (simp; done)); done)) | (rw [if_neg]; rotate_left; focus (omega; done)) | (rw [if_pos]; rotate_left; focus (omega; done))))
      (refine ⟨_, [], rfl, ⟨⟨⟨?_, rfl, rfl⟩, trivial⟩, by simp [hpAt, fitH], by simp [hpAt]⟩⟩; refine congrArg (fun b => AV.v (Value.bool b)) ?_; first | rfl | (rw [Bool.eq_iff_iff]; simp only [decide_eq_true_eq, frB, inZ, Bool.false_eq_true, beq_eq_false_iff_ne, beq_iff_eq, ne_eq, decide_eq_false_iff_not, Bool.not_eq_eq_eq_not, Bool.not_true, Bool.not_false, false_iff, iff_false, true_iff, iff_true] at *; omega))
  · cases hg
theorem xor2_bits (x : UInt8) : bits BinOp.xor IntKind.u8 (x.toNat : Int) 2 = ((x ^^^ 2).toNat : Int) := by
  have : ∀ x : Fin 256, bits BinOp.xor IntKind.u8 (x.val : Int) 2 = (((UInt8.ofNat x.val) ^^^ 2).toNat : Int) := by decide +kernel
  have h := this ⟨x.toNat, x.toNat_lt⟩
  simpa using h
theorem rows_set2 (xs : List UInt8) (k : Nat) (h : k < xs.length) : (rowsOfBytes xs).set k (D.v (Value.int IntKind.u8 (bits BinOp.xor IntKind.u8 ((xs.getD k 0).toNat : Int) 2)) :: List.drop 1 ((rowsOfBytes xs).getD k [])) = rowsOfBytes (xs.set k (xs.getD k 0 ^^^ 2)) := by
  rw [rowsOf_get _ _ h, xor2_bits]
  simp only [rowsOfBytes, List.map_set, List.drop_succ_cons, List.drop_zero]
theorem dfB2_len (xs : List UInt8) : (dfB2 xs).length ≤ 45 := by
  have h : (dfS2 xs).length ≤ 45 := by
    rw [dfS2]
    cases h : (mlB (mwM (dfM xs)) && inZ (dfT xs) 0 65535) with
    | true =>
      rw [mlV_len h]
      have hb := h
      rw [Bool.and_eq_true] at hb
      have := (mlB_iff.1 hb.1).2.2.2
      omega
    | false => rw [mlV, if_neg (by rw [h]; decide)]; simp
  rw [dfB2]
  split
  · rw [List.length_set]; exact h
  · split
    · rw [List.length_take]; omega
    · exact h
def llc : List (FuncId × Abs) := [(18, pureAbs g_alive), (21, pureAbs g_sameBytes), (24, pureAbs g_sameMail), (20, pureAbs g_mailBytes), (23, pureAbs g_mailFrom), (26, pureAbs g_mailFrom), (25, ownAbs (ocOf g_drawMf))]
theorem llc_ok : ∀ p ∈ llc, CallOk Try.prog p.1 p.2 := by
  intro p hp
  simp only [llc, List.mem_cons, List.not_mem_nil, or_false] at hp
  rcases hp with rfl | rfl | rfl | rfl | rfl | rfl | rfl
  · exact alive_ok.call
  · exact sameBytes_ok.call
  · exact sameMail_ok.call
  · exact implMailBytes_ok.call
  · exact implMailFrom_ok.call
  · exact specMailFrom_ok.call
  · exact drawMailFrom_ok.call
set_option maxHeartbeats 8000000 in
set_option maxRecDepth 100000 in
theorem lawMailFrom_ok : PureOk Try.prog 5 g_true := by
  refine PureOk.of_vc (G := llc) llc_ok mixed Try.func5 (by kernel_rfl) rfl ?_
  intro args cnd r bs hg hc
  unfold g_true at hg
  split at hg
  · rename_i sz rows
    cases hg
    obtain ⟨xs, rfl⟩ := hc
    refine ⟨⟨rfl, by simp, by simp [AV.ids, AV.ids.idsL]⟩, [.l 1 (rowsOfBytes xs)], rfl, fun w vs h => CvL.ok (.cons (.l _ _ _ (rowsOf_w xs)) .nil) h, ?_⟩
    obtain ⟨ys, hys⟩ : ∃ ys, ys = List.take 2000 xs := ⟨_, rfl⟩
    by_cases h20 : (xs.length : Int) > 1048576
    · have e20 : ((xs.length : Int) > 1048576) = True := eq_true h20
      simp (maxSteps := 3000000) only [Try.f5, llc, e20, g_alive, g_sameBytes, g_sameMail, g_mailBytes, g_mailFrom, ocOf, g_drawMf, bytesOf_rows, rowsOf_len, ↓reduceIte, Bool.false_eq_true, Bool.not_true, Bool.not_false, tYs, evL, implies_true, oMin, oCopy, oBin, oUn, oLoadKid, oStoreTree, oField, oExtract, oNil, oSliceQ, oLoadRow, takeCells, TS.atRow, TS.ex, treeMode, AV.isOwn, TK.isSl, nilTk, nilsB, oLenQ, oLen, nodupB, treeOf, kidAbs, kidRows, TK.isCell, D.toL, oLoad, oStore, oMake, oIndexAddr, ↓reduceIte, reduceCtorEq, Nat.reduceBEq, Nat.reduceAdd, Nat.reduceMul, Nat.reduceLT, Nat.reduceSub, Nat.reduceLeDiff, Nat.reduceEqDiff, Nat.reduceBneDiff, Int.reduceToNat, decide_eq_true_eq, decide_eq_false_iff_not, beq_iff_eq, Int.toNat_natCast, loopK_normal, loopK_exit, loopK_ret, bne_self_eq_false]
      exact ⟨_, [], rfl, ⟨⟨⟨rfl, rfl, rfl⟩, trivial⟩, trivial, by simp [rn, hpAt]⟩⟩
    have e20 : ((xs.length : Int) > 1048576) = False := eq_false h20
    have hb := dfB2_len ys
    obtain ⟨B, hB⟩ : ∃ B, B = dfB2 ys := ⟨_, rfl⟩
    have hB' := hB.symm
    rw [hB'] at hb
    obtain ⟨T, hT⟩ : ∃ T, T = dfT2 ys := ⟨_, rfl⟩
    have hT' := hT.symm
    obtain ⟨A, hA⟩ : ∃ A, A = (dfM ys).a := ⟨_, rfl⟩
    have hA' := hA.symm
    clear hB hT hA
    rcases hok : mfOk A T B with _ | _
    · obtain ⟨n1, n2, n3, n4⟩ := mf_neg hok
      simp (maxSteps := 3000000) only [Try.f5, llc, e20, ← hys, hB', hT', hA', hok, n1, n2, n3, n4, g_alive, g_sameBytes, g_sameMail, g_mailBytes, g_mailFrom, ocOf, g_drawMf, bytesOf_rows, rowsOf_len, ↓reduceIte, Bool.false_eq_true, Bool.not_true, Bool.not_false, tYs, evL, implies_true, oMin, oCopy, oBin, oUn, oLoadKid, oStoreTree, oField, oExtract, oNil, oSliceQ, oLoadRow, takeCells, TS.atRow, TS.ex, treeMode, AV.isOwn, TK.isSl, nilTk, nilsB, oLenQ, oLen, nodupB, treeOf, kidAbs, kidRows, TK.isCell, D.toL, oLoad, oStore, oMake, oIndexAddr, ↓reduceIte, reduceCtorEq, Nat.reduceBEq, Nat.reduceAdd, Nat.reduceMul, Nat.reduceLT, Nat.reduceSub, Nat.reduceLeDiff, Nat.reduceEqDiff, Nat.reduceBneDiff, Int.reduceToNat, decide_eq_true_eq, decide_eq_false_iff_not, beq_iff_eq, Int.toNat_natCast, loopK_normal, loopK_exit, loopK_ret, bne_self_eq_false]
      (repeat (first | (refine And.intro ?_ ?_; focus (((repeat' apply And.intro) <;> first | exact rowsOf_w _ | omega | (simp only [List.length_append, rowsOf_len, List.length_cons, List.length_nil, marks_len, List.length_take, List.length_drop, List.length_set]; omega) | exact ⟨_, rfl⟩ | (refine ⟨_, rfl, ?_⟩; omega) | (refine ⟨_, rfl, ?_⟩; simp only [List.length_append, rowsOf_len, List.length_cons, List.length_nil, marks_len, List.length_take, List.length_drop, List.length_set]; omega) | kernel_rfl | (simp; done)); done)) | (rw [if_neg]; rotate_left; focus (omega; done)) | (rw [if_pos]; rotate_left; focus (omega; done))))
      refine e_loop _ _ _ _ _ _ _ _ (fun k : Nat => [.any, .any, .any, .any, .any, .l 1 (rowsOfBytes B), .any, .v (.bool false), .any, .any, .v (.int .i64 0)] ++ List.replicate (Try.f5.ntmps - 11) .any) (fun k => []) (fun k => k = 0) (fun k => 0) 0 (fun k => by simp) ?_ fun k hk' => ?_
      · exact ⟨0, [], rfl, ⟨⟨trivial, trivial, trivial, trivial, trivial, ⟨rfl, rfl, rfl⟩, trivial, ⟨rfl, rfl, rfl⟩, trivial, trivial, ⟨rfl, rfl, rfl⟩, fitT_rep _ _ rfl⟩, trivial, by simp [rn, hpAt]⟩, by simp [keepIds]⟩
      subst hk'
      by_cases hl : B.length = 0
      · have hlt : ((0 : Int) < (B.length : Int)) = False := eq_false (by omega)
        simp (maxSteps := 3000000) only [Try.f5, llc, e20, ← hys, hB', hT', hA', hlt, g_alive, g_sameBytes, g_sameMail, g_mailBytes, g_mailFrom, ocOf, g_drawMf, bytesOf_rows, rowsOf_len, ↓reduceIte, Bool.false_eq_true, Bool.not_true, Bool.not_false, tYs, evL, implies_true, oMin, oCopy, oBin, oUn, oLoadKid, oStoreTree, oField, oExtract, oNil, oSliceQ, oLoadRow, takeCells, TS.atRow, TS.ex, treeMode, AV.isOwn, TK.isSl, nilTk, nilsB, oLenQ, oLen, nodupB, treeOf, kidAbs, kidRows, TK.isCell, D.toL, oLoad, oStore, oMake, oIndexAddr, ↓reduceIte, reduceCtorEq, Nat.reduceBEq, Nat.reduceAdd, Nat.reduceMul, Nat.reduceLT, Nat.reduceSub, Nat.reduceLeDiff, Nat.reduceEqDiff, Nat.reduceBneDiff, Int.reduceToNat, decide_eq_true_eq, decide_eq_false_iff_not, beq_iff_eq, Int.toNat_natCast, loopK_normal, loopK_exit, loopK_ret, bne_self_eq_false]
        exact ⟨_, [], rfl, ⟨⟨⟨rfl, rfl, rfl⟩, trivial⟩, trivial, by simp [rn, hpAt]⟩⟩
      · have hlt : ((0 : Int) < (B.length : Int)) = True := eq_true (by omega)
        simp (maxSteps := 3000000) only [Try.f5, llc, e20, ← hys, hB', hT', hA', hlt, g_alive, g_sameBytes, g_sameMail, g_mailBytes, g_mailFrom, ocOf, g_drawMf, bytesOf_rows, rowsOf_len, ↓reduceIte, Bool.false_eq_true, Bool.not_true, Bool.not_false, tYs, evL, implies_true, oMin, oCopy, oBin, oUn, oLoadKid, oStoreTree, oField, oExtract, oNil, oSliceQ, oLoadRow, takeCells, TS.atRow, TS.ex, treeMode, AV.isOwn, TK.isSl, nilTk, nilsB, oLenQ, oLen, nodupB, treeOf, kidAbs, kidRows, TK.isCell, D.toL, oLoad, oStore, oMake, oIndexAddr, ↓reduceIte, reduceCtorEq, Nat.reduceBEq, Nat.reduceAdd, Nat.reduceMul, Nat.reduceLT, Nat.reduceSub, Nat.reduceLeDiff, Nat.reduceEqDiff, Nat.reduceBneDiff, Int.reduceToNat, decide_eq_true_eq, decide_eq_false_iff_not, beq_iff_eq, Int.toNat_natCast, loopK_normal, loopK_exit, loopK_ret, bne_self_eq_false]
        exact ⟨_, [], rfl, ⟨⟨⟨rfl, rfl, rfl⟩, trivial⟩, trivial, by simp [rn, hpAt]⟩⟩
    · obtain ⟨n1, n2, n3, n4⟩ := mf_pos hok
      have hsent := mf_sent hok
      have hsent' : mlV ⟨A, ((B.getD 0 0).toNat : Int), ((B.getD 1 0).toNat : Int), (B.drop 3).take (B.length - 5)⟩ T = B := hsent
      have hdl : ((B.drop 3).take (B.length - 5)).length ≤ 45 := by rw [List.length_take, List.length_drop]; omega
      simp (maxSteps := 3000000) only [Try.f5, llc, e20, ← hys, hB', hT', hA', hok, n1, n2, n3, n4, g_alive, g_sameBytes, g_sameMail, g_mailBytes, g_mailFrom, ocOf, g_drawMf, bytesOf_rows, rowsOf_len, ↓reduceIte, Bool.false_eq_true, Bool.not_true, Bool.not_false, tYs, evL, implies_true, oMin, oCopy, oBin, oUn, oLoadKid, oStoreTree, oField, oExtract, oNil, oSliceQ, oLoadRow, takeCells, TS.atRow, TS.ex, treeMode, AV.isOwn, TK.isSl, nilTk, nilsB, oLenQ, oLen, nodupB, treeOf, kidAbs, kidRows, TK.isCell, D.toL, oLoad, oStore, oMake, oIndexAddr, ↓reduceIte, reduceCtorEq, Nat.reduceBEq, Nat.reduceAdd, Nat.reduceMul, Nat.reduceLT, Nat.reduceSub, Nat.reduceLeDiff, Nat.reduceEqDiff, Nat.reduceBneDiff, Int.reduceToNat, decide_eq_true_eq, decide_eq_false_iff_not, beq_iff_eq, Int.toNat_natCast, loopK_normal, loopK_exit, loopK_ret, bne_self_eq_false]
      (repeat (first | (refine And.intro ?_ ?_; focus (((repeat' apply And.intro) <;> first | exact rowsOf_w _ | omega | (simp only [List.length_append, rowsOf_len, List.length_cons, List.length_nil, marks_len, List.length_take, List.length_drop, List.length_set]; omega) | exact ⟨_, rfl⟩ | (refine ⟨_, rfl, ?_⟩; omega) | (refine ⟨_, rfl, ?_⟩; simp only [List.length_append, rowsOf_len, List.length_cons, List.length_nil, marks_len, List.length_take, List.length_drop, List.length_set]; omega) | kernel_rfl | (simp; done)); done)) | (rw [if_neg]; rotate_left; focus (omega; done)) | (rw [if_pos]; rotate_left; focus (omega; done))))
      refine e_loop _ _ _ _ _ _ _ _ (fun k : Nat => [.any, .any, .any, .v (.int .i64 A), .v (.int .i64 T), .l 1 (rowsOfBytes B), .ptr 1 0, .v (.bool true), .any, .any, .v (.int .i64 (k : Int))] ++ List.replicate (Try.f5.ntmps - 11) .any) (fun k => [(0, .sl 5 1 (rowsOfBytes ((B.drop 3).take (B.length - 5)))), (1, .var 24 [.v (.int .i64 A), .v (.int .i64 ((B.getD 0 0).toNat : Int)), .v (.int .i64 ((B.getD 1 0).toNat : Int)), .own 0])]) (fun k => k ≤ B.length) (fun k => B.length - k) 2 (fun k => by simp) ?_ fun k hk' => ?_
      · exact ⟨0, [(0, some _), (1, some _)], Nat.zero_le _, ⟨⟨trivial, trivial, trivial, ⟨rfl, rfl, rfl⟩, ⟨rfl, rfl, rfl⟩, ⟨rfl, rfl, rfl⟩, ⟨rfl, rfl, rfl⟩, ⟨rfl, rfl, rfl⟩, trivial, trivial, ⟨rfl, rfl, rfl⟩, fitT_rep _ _ rfl⟩, ⟨.inl rfl, rfl, rfl, rfl, .inl rfl, rfl, rfl, rfl, trivial⟩, by simp [rn, hpAt]⟩, by simp [keepIds]⟩
      have hk : k ≤ B.length := hk'
      have w2 : IntKind.i64.wrap ((k : Int) + 1) = ((k + 1 : Nat) : Int) := by rw [wrap_id] <;> omega
      by_cases h : k < B.length
      · have hlt : ((k : Int) < (B.length : Int)) = True := eq_true (by omega)
        have hset := rows_set2 B k h
        have hturn := mf_turn hok h
        simp (maxSteps := 3000000) only [Try.f5, llc, e20, ← hys, hB', hT', hA', hlt, hset, hturn, w2, rows_set, row_toI, row_nil, row_head, g_alive, g_sameBytes, g_sameMail, g_mailBytes, g_mailFrom, ocOf, g_drawMf, bytesOf_rows, rowsOf_len, ↓reduceIte, Bool.false_eq_true, Bool.not_true, Bool.not_false, tYs, evL, implies_true, oMin, oCopy, oBin, oUn, oLoadKid, oStoreTree, oField, oExtract, oNil, oSliceQ, oLoadRow, takeCells, TS.atRow, TS.ex, treeMode, AV.isOwn, TK.isSl, nilTk, nilsB, oLenQ, oLen, nodupB, treeOf, kidAbs, kidRows, TK.isCell, D.toL, oLoad, oStore, oMake, oIndexAddr, ↓reduceIte, reduceCtorEq, Nat.reduceBEq, Nat.reduceAdd, Nat.reduceMul, Nat.reduceLT, Nat.reduceSub, Nat.reduceLeDiff, Nat.reduceEqDiff, Nat.reduceBneDiff, Int.reduceToNat, decide_eq_true_eq, decide_eq_false_iff_not, beq_iff_eq, Int.toNat_natCast, loopK_normal, loopK_exit, loopK_ret, bne_self_eq_false]
        clear hset
        refine ⟨⟨by omega, by omega, rowsOf_w _⟩, by omega, ⟨h, by omega, h⟩, by omega, h, ⟨_, rfl, by rw [List.length_set]; omega⟩, ?_⟩
        exact ⟨k + 1, [(0, some 0), (1, some 1)], by omega, by omega, ⟨⟨trivial, trivial, trivial, ⟨rfl, rfl, rfl⟩, ⟨rfl, rfl, rfl⟩, ⟨rfl, rfl, rfl⟩, ⟨rfl, rfl, rfl⟩, ⟨rfl, rfl, rfl⟩, trivial, trivial, ⟨rfl, rfl, rfl⟩, fitT_rep _ _ rfl⟩, ⟨.inl rfl, rfl, rfl, rfl, .inl rfl, rfl, rfl, rfl, trivial⟩, by simp [rn, hpAt]⟩, by simp [keepIds]⟩
      · have hlt : ((k : Int) < (B.length : Int)) = False := eq_false (by omega)
        simp (maxSteps := 3000000) only [Try.f5, llc, e20, ← hys, hB', hT', hA', hlt, hsent', g_alive, g_sameBytes, g_sameMail, g_mailBytes, g_mailFrom, ocOf, g_drawMf, bytesOf_rows, rowsOf_len, ↓reduceIte, Bool.false_eq_true, Bool.not_true, Bool.not_false, tYs, evL, implies_true, oMin, oCopy, oBin, oUn, oLoadKid, oStoreTree, oField, oExtract, oNil, oSliceQ, oLoadRow, takeCells, TS.atRow, TS.ex, treeMode, AV.isOwn, TK.isSl, nilTk, nilsB, oLenQ, oLen, nodupB, treeOf, kidAbs, kidRows, TK.isCell, D.toL, oLoad, oStore, oMake, oIndexAddr, ↓reduceIte, reduceCtorEq, Nat.reduceBEq, Nat.reduceAdd, Nat.reduceMul, Nat.reduceLT, Nat.reduceSub, Nat.reduceLeDiff, Nat.reduceEqDiff, Nat.reduceBneDiff, Int.reduceToNat, decide_eq_true_eq, decide_eq_false_iff_not, beq_iff_eq, Int.toNat_natCast, loopK_normal, loopK_exit, loopK_ret, bne_self_eq_false]
        refine ⟨⟨_, rfl, by omega⟩, ⟨_, rfl⟩, ?_⟩
        exact ⟨_, [], rfl, ⟨⟨⟨rfl, rfl, rfl⟩, trivial⟩, trivial, by simp [rn, hpAt]⟩⟩
  · cases hg
theorem walk_MailOk (A : Option Addr) (n c : Nat) (xs : List UInt8) (w : World) (h : Rd w w.heap.size A n (bv xs)) (hc : n ≤ c) :
    Calls Try.prog 3 #[.slice A n c] w fun e w' => e = .returned (.bool true) ∧ Below w.heap.size w w' :=
  lawMailOk_ok.walk (vs := [_]) (arel_cons (.l _ _ _ (rep_of_rd h hc)) arel_nil) rfl ⟨xs, rfl⟩
theorem walk_MailBytes (A : Option Addr) (n c : Nat) (xs : List UInt8) (w : World) (h : Rd w w.heap.size A n (bv xs)) (hc : n ≤ c) :
    Calls Try.prog 4 #[.slice A n c] w fun e w' => e = .returned (.bool true) ∧ Below w.heap.size w w' :=
  lawMailBytes_ok.walk (vs := [_]) (arel_cons (.l _ _ _ (rep_of_rd h hc)) arel_nil) rfl ⟨xs, rfl⟩
theorem walk_MailFrom (A : Option Addr) (n c : Nat) (xs : List UInt8) (w : World) (h : Rd w w.heap.size A n (bv xs)) (hc : n ≤ c) :
    Calls Try.prog 5 #[.slice A n c] w fun e w' => e = .returned (.bool true) ∧ Below w.heap.size w w' :=
  lawMailFrom_ok.walk (vs := [_]) (arel_cons (.l _ _ _ (rep_of_rd h hc)) arel_nil) rfl ⟨xs, rfl⟩
end Go.Proofs.Ytknnobnedepinaa
