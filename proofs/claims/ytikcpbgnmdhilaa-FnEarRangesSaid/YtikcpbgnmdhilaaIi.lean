import Derived.Test.YtikcpbgnmdhilaaIg
set_option linter.unusedVariables false
set_option linter.unusedSimpArgs false
namespace Go.Proofs.Ytikcpbgnmdhilaa
open Go.RowKit
set_option linter.unusedSimpArgs false
def g_ear : OC := fun args B0 => match args, B0 with
  | [.ptr r o, .v (.int .i64 n)], [.var T [.l 1 rows, .v (.int .i64 p)]] => some (T = 67 ∧ r = 0 ∧ o = 0 ∧ (∃ xs, rows = rowsOfBytes xs ∧ xs.length ≤ 2000) ∧ 0 ≤ p ∧ p < 100000 ∧ 0 ≤ n ∧ n ≤ 1000000, .agg [.v (.int .i64 ((esV (bytesOfRows rows) p n).2).n), .v (.int .i64 ((esV (bytesOfRows rows) p n).2).room), .l 1 (rowsOfBytes ((esV (bytesOfRows rows) p n).2).g), .l 2 (erRows ((esV (bytesOfRows rows) p n).2).fr)], [.var T [.l 1 rows, .v (.int .i64 (esV (bytesOfRows rows) p n).1)]], [])
  | _, _ => none
def rdea : List (FuncId × Abs) := [(40, ownAbs g_pick), (47, ownAbs g_odd), (42, pureAbs g_heardS), (20, frzAbs g_earHear), (23, frzAbs g_earRead)]
theorem rdea_ok : ∀ p ∈ rdea, CallOk Try.prog p.1 p.2 := by
  intro p hp
  simp only [rdea, List.mem_cons, List.not_mem_nil, or_false] at hp
  rcases hp with rfl | rfl | rfl | rfl | rfl
  · exact pick_ok.call
  · exact odd_ok.call
  · exact l20Heard_ok.call
  · exact specEarHear_ok.toOwn.callF
  · exact specEarRead_ok.toOwn.callF
set_option maxHeartbeats 16000000 in
set_option maxRecDepth 100000 in
theorem l20Ear_ok : OwnOk Try.prog 31 g_ear := by
  refine OwnOk.of_vcL (G := rdea) rdea_ok mixed Try.func31 (by kernel_rfl) rfl ?_
  intro args B0 cnd r B1 bs hg hc hlive
  unfold g_ear at hg
  split at hg
  · rename_i r o n T rows p
    cases hg
    obtain ⟨rfl, rfl, rfl, ⟨xs, rfl, hl⟩, hp0, hp1, hn0, hn1⟩ := hc
    rw [bytesOf_rows]
    have a1 := pickV_nonneg xs p 3 (by omega)
    have a2 := pickV_lt xs p 3 (by omega)
    have a3 := pickV_nonneg xs (p + 1) 20 (by omega)
    have a4 := pickV_lt xs (p + 1) 20 (by omega)
    have a5 := pickV_nonneg xs (p + 1 + 1) 6 (by omega)
    have a6 := pickV_lt xs (p + 1 + 1) 6 (by omega)
    have w1 : IntKind.i64.wrap (pickV xs p 3 * 40) = pickV xs p 3 * 40 := wrap_id (by omega) (by omega)
    have w2 : IntKind.i64.wrap (100 + pickV xs p 3 * 40) = 100 + pickV xs p 3 * 40 := wrap_id (by omega) (by omega)
    have w3 : IntKind.i64.wrap (4 + pickV xs (p + 1) 20) = 4 + pickV xs (p + 1) 20 := wrap_id (by omega) (by omega)
    obtain ⟨K, hK⟩ : ∃ K, esK xs p = K := ⟨_, rfl⟩
    have hK' : pickV xs (p + 1 + 1) 6 = (K : Int) := by rw [← hK, esK]; omega
    have hK5 : K ≤ 5 := by rw [← hK]; exact esK_le xs p
    refine ⟨⟨by simp [likeBs, likeB], rfl, fun b hb => by simp at hb; subst hb; exact ⟨_, _, rfl, rfl⟩, by simp [AV.ids, AV.ids.idsL]⟩, _, rfl, fun w Z s vs h => h, ?_⟩
    clear hlive
    have hx : (∃ ys, rowsOfBytes xs = rowsOfBytes ys ∧ ys.length ≤ 2000) = True := eq_true ⟨xs, rfl, hl⟩
    simp (maxSteps := 3000000) only [Try.f31, rdea, g_pick, g_odd, g_heardS, g_earHear, g_earRead, bytesOf_rows, rowsOf_len, ersOf_rows, erRows_len, hK', w1, w2, w3, hx, ↓reduceIte, Bool.false_eq_true, doneL_ret, doneL_normal, tYs, evL, implies_true, oMin, x_min3, oMin3, x_max, oMax, oCopy, oBin, oUn, oLoadKid, oStoreTree, oField, oExtract, oNil, oSliceQ, oSliceE, x_appendZ, oAppendZ, oSliceEnd, endMode, oLoadRow, takeCells, TS.atRow, TS.ex, treeMode, AV.isOwn, TK.isSl, nilTk, nilsB, oLenQ, oLen, nodupB, treeOf, kidAbs, kidRows, TK.isCell, D.toL, oLoad, oStore, oMake, oIndexAddr, ↓reduceIte, reduceCtorEq, Nat.reduceBEq, Nat.reduceAdd, Nat.reduceMul, Nat.reduceLT, Nat.reduceSub, Nat.reduceLeDiff, Nat.reduceEqDiff, Nat.reduceBneDiff, Int.reduceToNat, decide_eq_true_eq, decide_eq_false_iff_not, beq_iff_eq, Int.toNat_natCast, loopK_normal, loopK_exit, loopK_ret]
    clear w1 w2 w3
    (repeat (refine And.intro ?_ ?_; focus (((repeat' apply And.intro) <;> first | exact rowsOf_w _ | omega | (simp only [List.length_append, rowsOf_len, List.length_cons, List.length_nil, marks_len, List.length_take, List.length_drop, List.length_set]; omega) | exact ⟨_, rfl⟩ | (refine ⟨_, rfl, ?_⟩; omega) | (refine ⟨_, rfl, ?_⟩; simp only [List.length_append, rowsOf_len, List.length_cons, List.length_nil, marks_len, List.length_take, List.length_drop, List.length_set]; omega) | kernel_rfl | (simp; done)); done)))
    refine e_loop _ _ _ _ _ _ _ _ (fun x : Nat × ES => [.ptr 0 0, .v (.int .i64 n), .any, .any, .ptr 1 0, .ptr 2 0, .v (.int .i64 ((K : Int) - (x.1 : Int)))] ++ List.replicate (Try.f31.ntmps - 7) .any) (fun x => [(0, .var 67 [.l 1 (rowsOfBytes xs), .v (.int .i64 x.2.q)]), (1, .var 25 [.v (.int .i64 0), .v (.int .i64 0), .v (.slice none 0 0), .v (.slice none 0 0)]), (2, .var 25 [.v (.int .i64 x.2.e.n), .v (.int .i64 x.2.e.room), .own 3, .own 4]), (3, .sl 5 1 (rowsOfBytes (x.2.e.g))), (4, .sl 46 2 (erRows x.2.e.fr))]) (fun x => x.1 ≤ K ∧ x.2 = esR xs (esB xs p) x.1) (fun x => K - x.1) 5 (fun x => by simp) ?_ fun x hk' => ?_
    · exact ⟨(0, esB xs p), [(0, some 0), (1, some _), (2, some _), (3, none), (4, none)], ⟨Nat.zero_le _, rfl⟩, ⟨⟨⟨rfl, rfl, rfl⟩, ⟨rfl, rfl, rfl⟩, trivial, trivial, ⟨rfl, rfl, rfl⟩, ⟨rfl, rfl, rfl⟩, ⟨congrArg (fun z => AV.v (Value.int .i64 z)) (by omega), rfl, rfl⟩, fitT_rep _ _ rfl⟩, ⟨.inl rfl, rfl, rfl, rfl, .inl rfl, rfl, rfl, rfl, .inl rfl, rfl, rfl, rfl, ⟨by omega, rfl⟩, rfl, rfl, rfl, (show emptyB (Blk.sl 46 2 []) from ⟨by omega, rfl⟩), rfl, rfl, rfl, trivial⟩, by simp [rn, hpAt]⟩, by simp [keepIds, rn]⟩
    obtain ⟨j, S⟩ := x
    obtain ⟨hj, hS⟩ := hk'
    dsimp only at hj hS ⊢
    have hB := esB_ok xs p (by omega)
    obtain ⟨hG, hq0, hq1⟩ := esR_ok (xs := xs) hB (by show p + 1 + 1 + 1 < 1000000; omega) j (by omega)
    have eq0 : (esB xs p).q = p + 1 + 1 + 1 := rfl
    rw [eq0] at hq0 hq1
    rw [← hS] at hG hq0 hq1
    have hcnt := ea_count hG.1
    obtain ⟨c1, c2, c3, _⟩ := eaB_iff.1 hG.1
    have hGn := hG.2
    by_cases hk : j < K
    · have d0 : ((K : Int) - (j : Int) > 0) = True := eq_true (by omega)
      have w7 : IntKind.i64.wrap ((K : Int) - (j : Int) - 1) = (K : Int) - ((j + 1 : Nat) : Int) := by rw [wrap_id] <;> omega
      have b1 := pickV_nonneg xs S.q 14 (by omega)
      have b2 := pickV_lt xs S.q 14 (by omega)
      have b3 := pickV_nonneg xs (S.q + 1) 5 (by omega)
      have b4 := pickV_lt xs (S.q + 1) 5 (by omega)
      have b5 := pickV_nonneg xs (S.q + 1 + 1 + 1) 5 (by omega)
      have b6 := pickV_lt xs (S.q + 1 + 1 + 1) 5 (by omega)
      obtain ⟨k1, k2, k3, k4, k5⟩ := esH_ok (xs := xs) hG (by omega) (by omega)
      have hcntH := ea_count k2
      obtain ⟨_, e2, _⟩ := eaB_iff.1 k2
      have w8 : IntKind.i64.wrap (S.e.n + pickV xs S.q 14) = S.e.n + pickV xs S.q 14 := wrap_id (by omega) (by omega)
      have w9 : IntKind.i64.wrap (S.e.n + pickV xs S.q 14 - 4) = esA xs S := by rw [wrap_id (by omega) (by omega)]; rfl
      have hD : heardV (esA xs S) (pickV xs (S.q + 1) 5).toNat = esD xs S := rfl
      have hDl : (esD xs S).length ≤ 5 := by rw [esD, heardV_len]; omega
      have hH : hrV ⟨S.e.n, S.e.room, S.e.g, S.e.fr⟩ (esA xs S) (esD xs S) = esH xs S := rfl
      obtain ⟨A, hA⟩ : ∃ A, esA xs S = A := ⟨_, rfl⟩
      obtain ⟨dd, hDD⟩ : ∃ dd, esD xs S = dd := ⟨_, rfl⟩
      obtain ⟨H, hHH⟩ : ∃ H, esH xs S = H := ⟨_, rfl⟩
      rw [hA] at w9 hD k5
      rw [hDD] at hD hDl
      rw [hA, hDD] at hH
      rw [hHH] at hH k2 k3 k4 hcntH e2
      have hne : pickV xs (S.q + 1 + 1) 4 ≠ 0 → esR xs (esB xs p) (j + 1) = ⟨S.q + 1 + 1 + 1, H⟩ := fun h => by
        show esN xs (esR xs (esB xs p) j) = _
        rw [← hS, esN, if_neg h, hHH]
      have heq : pickV xs (S.q + 1 + 1) 4 = 0 → esR xs (esB xs p) (j + 1) = ⟨S.q + 1 + 1 + 1 + 1, rdV12 H (pickV xs (S.q + 1 + 1 + 1) 5)⟩ := fun h => by
        show esN xs (esR xs (esB xs p) j) = _
        rw [← hS, esN, if_pos h, hHH]
      by_cases hp4 : pickV xs (S.q + 1 + 1) 4 = 0
      · have c4 : (pickV xs (S.q + 1 + 1) 4 = 0) = True := eq_true hp4
        have c4b : (pickV xs (S.q + 1 + 1) 4 == 0) = true := beq_iff_eq.2 hp4
        have hR : rdV12 ⟨H.n, H.room, H.g, H.fr⟩ (pickV xs (S.q + 1 + 1 + 1) 5) = rdV12 H (pickV xs (S.q + 1 + 1 + 1) 5) := rfl
        have hRb : rdB12 ⟨H.n, H.room, H.g, H.fr⟩ (pickV xs (S.q + 1 + 1 + 1) 5) = rdB12 H (pickV xs (S.q + 1 + 1 + 1) 5) := rfl
        simp (maxSteps := 3000000) only [Try.f31, rdea, g_pick, g_odd, g_heardS, g_earHear, g_earRead, bytesOf_rows, rowsOf_len, ersOf_rows, erRows_len, d0, w7, w8, w9, hD, hH, c4, c4b, hR, hRb, hx, ↓reduceIte, Bool.false_eq_true, doneL_ret, doneL_normal, tYs, evL, implies_true, oMin, x_min3, oMin3, x_max, oMax, oCopy, oBin, oUn, oLoadKid, oStoreTree, oField, oExtract, oNil, oSliceQ, oSliceE, x_appendZ, oAppendZ, oSliceEnd, endMode, oLoadRow, takeCells, TS.atRow, TS.ex, treeMode, AV.isOwn, TK.isSl, nilTk, nilsB, oLenQ, oLen, nodupB, treeOf, kidAbs, kidRows, TK.isCell, D.toL, oLoad, oStore, oMake, oIndexAddr, ↓reduceIte, reduceCtorEq, Nat.reduceBEq, Nat.reduceAdd, Nat.reduceMul, Nat.reduceLT, Nat.reduceSub, Nat.reduceLeDiff, Nat.reduceEqDiff, Nat.reduceBneDiff, Int.reduceToNat, decide_eq_true_eq, decide_eq_false_iff_not, beq_iff_eq, Int.toNat_natCast, loopK_normal, loopK_exit, loopK_ret]
        (repeat (refine And.intro ?_ ?_; focus (((repeat' apply And.intro) <;> first | omega | exact rowsOf_w _ | exact erRows_w _ | exact ⟨_, rfl⟩ | (refine ⟨_, rfl, ?_⟩; first | omega | (simp only [List.length_append, rowsOf_len, erRows_len, List.length_cons, List.length_nil, marks_len, List.length_take, List.length_drop, List.length_set, List.length_map, List.length_range]; omega)) | (simp only [List.length_append, rowsOf_len, erRows_len, List.length_cons, List.length_nil, marks_len, List.length_take, List.length_drop, List.length_set, List.length_map, List.length_range]; omega) | kernel_rfl | (simp; done)); done)))
        exact ⟨(j + 1, ⟨S.q + 1 + 1 + 1 + 1, rdV12 H (pickV xs (S.q + 1 + 1 + 1) 5)⟩), [(0, some 0), (1, some 1), (2, some 2), (3, some _), (4, some _)], ⟨by show j + 1 ≤ K; omega, (heq hp4).symm⟩, by show K - (j + 1) < K - j; omega, ⟨⟨⟨rfl, rfl, rfl⟩, ⟨rfl, rfl, rfl⟩, trivial, trivial, ⟨rfl, rfl, rfl⟩, ⟨rfl, rfl, rfl⟩, ⟨rfl, rfl, rfl⟩, fitT_rep _ _ rfl⟩, ⟨.inl rfl, rfl, rfl, rfl, .inl rfl, rfl, rfl, rfl, .inl rfl, rfl, rfl, rfl, .inl rfl, rfl, rfl, rfl, .inl rfl, rfl, rfl, rfl, trivial⟩, by simp [rn, hpAt]⟩, by simp [keepIds, rn]⟩
      · have c4 : (pickV xs (S.q + 1 + 1) 4 = 0) = False := eq_false hp4
        have c4b : (pickV xs (S.q + 1 + 1) 4 == 0) = false := beq_eq_false_iff_ne.2 hp4
        simp (maxSteps := 3000000) only [Try.f31, rdea, g_pick, g_odd, g_heardS, g_earHear, g_earRead, bytesOf_rows, rowsOf_len, ersOf_rows, erRows_len, d0, w7, w8, w9, hD, hH, c4, c4b, hx, ↓reduceIte, Bool.false_eq_true, doneL_ret, doneL_normal, tYs, evL, implies_true, oMin, x_min3, oMin3, x_max, oMax, oCopy, oBin, oUn, oLoadKid, oStoreTree, oField, oExtract, oNil, oSliceQ, oSliceE, x_appendZ, oAppendZ, oSliceEnd, endMode, oLoadRow, takeCells, TS.atRow, TS.ex, treeMode, AV.isOwn, TK.isSl, nilTk, nilsB, oLenQ, oLen, nodupB, treeOf, kidAbs, kidRows, TK.isCell, D.toL, oLoad, oStore, oMake, oIndexAddr, ↓reduceIte, reduceCtorEq, Nat.reduceBEq, Nat.reduceAdd, Nat.reduceMul, Nat.reduceLT, Nat.reduceSub, Nat.reduceLeDiff, Nat.reduceEqDiff, Nat.reduceBneDiff, Int.reduceToNat, decide_eq_true_eq, decide_eq_false_iff_not, beq_iff_eq, Int.toNat_natCast, loopK_normal, loopK_exit, loopK_ret]
        (repeat (refine And.intro ?_ ?_; focus (((repeat' apply And.intro) <;> first | omega | exact rowsOf_w _ | exact erRows_w _ | exact ⟨_, rfl⟩ | (refine ⟨_, rfl, ?_⟩; first | omega | (simp only [List.length_append, rowsOf_len, erRows_len, List.length_cons, List.length_nil, marks_len, List.length_take, List.length_drop, List.length_set, List.length_map, List.length_range]; omega)) | (simp only [List.length_append, rowsOf_len, erRows_len, List.length_cons, List.length_nil, marks_len, List.length_take, List.length_drop, List.length_set, List.length_map, List.length_range]; omega) | kernel_rfl | (simp; done)); done)))
        exact ⟨(j + 1, ⟨S.q + 1 + 1 + 1, H⟩), [(0, some 0), (1, some 1), (2, some 2), (3, some _), (4, some _)], ⟨by show j + 1 ≤ K; omega, (hne hp4).symm⟩, by show K - (j + 1) < K - j; omega, ⟨⟨⟨rfl, rfl, rfl⟩, ⟨rfl, rfl, rfl⟩, trivial, trivial, ⟨rfl, rfl, rfl⟩, ⟨rfl, rfl, rfl⟩, ⟨rfl, rfl, rfl⟩, fitT_rep _ _ rfl⟩, ⟨.inl rfl, rfl, rfl, rfl, .inl rfl, rfl, rfl, rfl, .inl rfl, rfl, rfl, rfl, .inl rfl, rfl, rfl, rfl, .inl rfl, rfl, rfl, rfl, trivial⟩, by simp [rn, hpAt]⟩, by simp [keepIds, rn]⟩
    · have hjK : j = K := by omega
      have hL : esL xs p = S := by rw [esL, hK, ← hjK, ← hS]
      have d0 : ((K : Int) - (j : Int) > 0) = False := eq_false (by omega)
      obtain ⟨e, he⟩ : ∃ e, e = oneIf n := ⟨_, rfl⟩
      have be := oneIf_le n
      rw [← he] at be
      have he0 : (if 0 < n then (1 : Int) else 0) = e := he.symm
      by_cases ho : (decide (0 < n) && pickV xs S.q n == n - 1) = true
      · have co : (decide (0 < n) && pickV xs S.q n == n - 1) = true := ho
        have b1 := pickV_nonneg xs ((S.q + e) + 1) 2 (by omega)
        have b2 := pickV_lt xs ((S.q + e) + 1) 2 (by omega)
        have b3 := pickV_nonneg xs ((S.q + e) + 1) 40 (by omega)
        have b4 := pickV_lt xs ((S.q + e) + 1) 40 (by omega)
        have v1 : IntKind.i64.wrap (pickV xs ((S.q + e) + 1) 2 * 33) = pickV xs ((S.q + e) + 1) 2 * 33 := wrap_id (by omega) (by omega)
        have v2 : IntKind.i64.wrap (S.e.n + pickV xs ((S.q + e) + 1) 40) = S.e.n + pickV xs ((S.q + e) + 1) 40 := wrap_id (by omega) (by omega)
        have v3 : IntKind.i64.wrap (S.e.n + pickV xs ((S.q + e) + 1) 40 - 3) = S.e.n + pickV xs ((S.q + e) + 1) 40 - 3 := wrap_id (by omega) (by omega)
        have er : erRows S.e.fr ++ [[.v (.int .i64 (S.e.n + pickV xs ((S.q + e) + 1) 40 - 3)), .v (.int .u8 0)]] = erRows (S.e.fr ++ [⟨S.e.n + pickV xs ((S.q + e) + 1) 40 - 3, 0⟩]) := (erRows_app S.e.fr [⟨S.e.n + pickV xs ((S.q + e) + 1) 40 - 3, 0⟩])
        obtain ⟨zz, hzz⟩ : ∃ z, z = List.replicate 20 (0 : UInt8) := ⟨_, rfl⟩
        have g0 : rowsOfBytes S.e.g ++ [[.v (.int .u8 0)], [.v (.int .u8 0)], [.v (.int .u8 0)], [.v (.int .u8 0)], [.v (.int .u8 0)], [.v (.int .u8 0)], [.v (.int .u8 0)], [.v (.int .u8 0)], [.v (.int .u8 0)], [.v (.int .u8 0)], [.v (.int .u8 0)], [.v (.int .u8 0)], [.v (.int .u8 0)], [.v (.int .u8 0)], [.v (.int .u8 0)], [.v (.int .u8 0)], [.v (.int .u8 0)], [.v (.int .u8 0)], [.v (.int .u8 0)], [.v (.int .u8 0)]] = rowsOfBytes (S.e.g ++ zz) := by rw [hzz, ← rowsOf_app]; rfl
        by_cases y0 : pickV xs (S.q + e) 4 = 0
        · have z0 : (pickV xs (S.q + e) 4 = 0) = True := eq_true y0
          have zb0 : (pickV xs (S.q + e) 4 == 0) = true := by simp [y0]
          have ev : esV xs p n = ((S.q + e) + 1 + 1, ⟨S.e.n, pickV xs ((S.q + e) + 1) 2 * 33, S.e.g, S.e.fr⟩) := by rw [esV, hL, if_pos ho, ← he, esF, if_pos y0]
          rw [ev]
          simp (maxSteps := 3000000) only [Try.f31, rdea, g_pick, g_odd, g_heardS, g_earHear, g_earRead, bytesOf_rows, rowsOf_len, ersOf_rows, erRows_len, d0, he0, co, v1, v2, v3, er, g0, z0, zb0, hx, ↓reduceIte, Bool.false_eq_true, doneL_ret, doneL_normal, tYs, evL, implies_true, oMin, x_min3, oMin3, x_max, oMax, oCopy, oBin, oUn, oLoadKid, oStoreTree, oField, oExtract, oNil, oSliceQ, oSliceE, x_appendZ, oAppendZ, oSliceEnd, endMode, oLoadRow, takeCells, TS.atRow, TS.ex, treeMode, AV.isOwn, TK.isSl, nilTk, nilsB, oLenQ, oLen, nodupB, treeOf, kidAbs, kidRows, TK.isCell, D.toL, oLoad, oStore, oMake, oIndexAddr, ↓reduceIte, reduceCtorEq, Nat.reduceBEq, Nat.reduceAdd, Nat.reduceMul, Nat.reduceLT, Nat.reduceSub, Nat.reduceLeDiff, Nat.reduceEqDiff, Nat.reduceBneDiff, Int.reduceToNat, decide_eq_true_eq, decide_eq_false_iff_not, beq_iff_eq, Int.toNat_natCast, loopK_normal, loopK_exit, loopK_ret]
          clear ev
          (repeat (refine And.intro ?_ ?_; focus (((repeat' apply And.intro) <;> first | exact rowsOf_w _ | omega | (simp only [List.length_append, rowsOf_len, List.length_cons, List.length_nil, marks_len, List.length_take, List.length_drop, List.length_set]; omega) | exact ⟨_, rfl⟩ | (refine ⟨_, rfl, ?_⟩; omega) | (refine ⟨_, rfl, ?_⟩; simp only [List.length_append, rowsOf_len, List.length_cons, List.length_nil, marks_len, List.length_take, List.length_drop, List.length_set]; omega) | kernel_rfl | (simp; done)); done)))
          exact ⟨_, rfl, rfl, rfl⟩
        · have z0 : (pickV xs (S.q + e) 4 = 0) = False := eq_false y0
          have zb0 : (pickV xs (S.q + e) 4 == 0) = false := by simp [y0]
          by_cases y1 : pickV xs (S.q + e) 4 = 1
          · have z1 : (pickV xs (S.q + e) 4 = 1) = True := eq_true y1
            have zb1 : (pickV xs (S.q + e) 4 == 1) = true := by simp [y1]
            have ev : esV xs p n = ((S.q + e) + 1, ⟨-1, S.e.room, S.e.g, S.e.fr⟩) := by rw [esV, hL, if_pos ho, ← he, esF, if_neg y0, if_pos y1]
            rw [ev]
            simp (maxSteps := 3000000) only [Try.f31, rdea, g_pick, g_odd, g_heardS, g_earHear, g_earRead, bytesOf_rows, rowsOf_len, ersOf_rows, erRows_len, d0, he0, co, v1, v2, v3, er, g0, z0, zb0, z1, zb1, hx, ↓reduceIte, Bool.false_eq_true, doneL_ret, doneL_normal, tYs, evL, implies_true, oMin, x_min3, oMin3, x_max, oMax, oCopy, oBin, oUn, oLoadKid, oStoreTree, oField, oExtract, oNil, oSliceQ, oSliceE, x_appendZ, oAppendZ, oSliceEnd, endMode, oLoadRow, takeCells, TS.atRow, TS.ex, treeMode, AV.isOwn, TK.isSl, nilTk, nilsB, oLenQ, oLen, nodupB, treeOf, kidAbs, kidRows, TK.isCell, D.toL, oLoad, oStore, oMake, oIndexAddr, ↓reduceIte, reduceCtorEq, Nat.reduceBEq, Nat.reduceAdd, Nat.reduceMul, Nat.reduceLT, Nat.reduceSub, Nat.reduceLeDiff, Nat.reduceEqDiff, Nat.reduceBneDiff, Int.reduceToNat, decide_eq_true_eq, decide_eq_false_iff_not, beq_iff_eq, Int.toNat_natCast, loopK_normal, loopK_exit, loopK_ret]
            clear ev
            (repeat (refine And.intro ?_ ?_; focus (((repeat' apply And.intro) <;> first | exact rowsOf_w _ | omega | (simp only [List.length_append, rowsOf_len, List.length_cons, List.length_nil, marks_len, List.length_take, List.length_drop, List.length_set]; omega) | exact ⟨_, rfl⟩ | (refine ⟨_, rfl, ?_⟩; omega) | (refine ⟨_, rfl, ?_⟩; simp only [List.length_append, rowsOf_len, List.length_cons, List.length_nil, marks_len, List.length_take, List.length_drop, List.length_set]; omega) | kernel_rfl | (simp; done)); done)))
            exact ⟨_, rfl, rfl, rfl⟩
          · have z1 : (pickV xs (S.q + e) 4 = 1) = False := eq_false y1
            have zb1 : (pickV xs (S.q + e) 4 == 1) = false := by simp [y1]
            by_cases y2 : pickV xs (S.q + e) 4 = 2
            · have z2 : (pickV xs (S.q + e) 4 = 2) = True := eq_true y2
              have zb2 : (pickV xs (S.q + e) 4 == 2) = true := by simp [y2]
              have ev : esV xs p n = ((S.q + e) + 1 + 1, ⟨S.e.n, S.e.room, S.e.g, S.e.fr ++ [⟨S.e.n + pickV xs ((S.q + e) + 1) 40 - 3, 0⟩]⟩) := by rw [esV, hL, if_pos ho, ← he, esF, if_neg y0, if_neg y1, if_pos y2]
              rw [ev]
              simp (maxSteps := 3000000) only [Try.f31, rdea, g_pick, g_odd, g_heardS, g_earHear, g_earRead, bytesOf_rows, rowsOf_len, ersOf_rows, erRows_len, d0, he0, co, v1, v2, v3, er, g0, z0, zb0, z1, zb1, z2, zb2, hx, ↓reduceIte, Bool.false_eq_true, doneL_ret, doneL_normal, tYs, evL, implies_true, oMin, x_min3, oMin3, x_max, oMax, oCopy, oBin, oUn, oLoadKid, oStoreTree, oField, oExtract, oNil, oSliceQ, oSliceE, x_appendZ, oAppendZ, oSliceEnd, endMode, oLoadRow, takeCells, TS.atRow, TS.ex, treeMode, AV.isOwn, TK.isSl, nilTk, nilsB, oLenQ, oLen, nodupB, treeOf, kidAbs, kidRows, TK.isCell, D.toL, oLoad, oStore, oMake, oIndexAddr, ↓reduceIte, reduceCtorEq, Nat.reduceBEq, Nat.reduceAdd, Nat.reduceMul, Nat.reduceLT, Nat.reduceSub, Nat.reduceLeDiff, Nat.reduceEqDiff, Nat.reduceBneDiff, Int.reduceToNat, decide_eq_true_eq, decide_eq_false_iff_not, beq_iff_eq, Int.toNat_natCast, loopK_normal, loopK_exit, loopK_ret]
              clear ev
              (repeat (refine And.intro ?_ ?_; focus (((repeat' apply And.intro) <;> first | exact rowsOf_w _ | omega | (simp only [List.length_append, rowsOf_len, List.length_cons, List.length_nil, marks_len, List.length_take, List.length_drop, List.length_set]; omega) | exact ⟨_, rfl⟩ | (refine ⟨_, rfl, ?_⟩; omega) | (refine ⟨_, rfl, ?_⟩; simp only [List.length_append, rowsOf_len, List.length_cons, List.length_nil, marks_len, List.length_take, List.length_drop, List.length_set]; omega) | kernel_rfl | (simp; done)); done)))
              exact ⟨_, rfl, rfl, rfl⟩
            · have z2 : (pickV xs (S.q + e) 4 = 2) = False := eq_false y2
              have zb2 : (pickV xs (S.q + e) 4 == 2) = false := by simp [y2]
              have ev : esV xs p n = ((S.q + e) + 1, ⟨S.e.n, S.e.room, S.e.g ++ zz, S.e.fr⟩) := by rw [esV, hL, if_pos ho, ← he, esF, if_neg y0, if_neg y1, if_neg y2, hzz]
              rw [ev]
              simp (maxSteps := 3000000) only [Try.f31, rdea, g_pick, g_odd, g_heardS, g_earHear, g_earRead, bytesOf_rows, rowsOf_len, ersOf_rows, erRows_len, d0, he0, co, v1, v2, v3, er, g0, z0, zb0, z1, zb1, z2, zb2, hx, ↓reduceIte, Bool.false_eq_true, doneL_ret, doneL_normal, tYs, evL, implies_true, oMin, x_min3, oMin3, x_max, oMax, oCopy, oBin, oUn, oLoadKid, oStoreTree, oField, oExtract, oNil, oSliceQ, oSliceE, x_appendZ, oAppendZ, oSliceEnd, endMode, oLoadRow, takeCells, TS.atRow, TS.ex, treeMode, AV.isOwn, TK.isSl, nilTk, nilsB, oLenQ, oLen, nodupB, treeOf, kidAbs, kidRows, TK.isCell, D.toL, oLoad, oStore, oMake, oIndexAddr, ↓reduceIte, reduceCtorEq, Nat.reduceBEq, Nat.reduceAdd, Nat.reduceMul, Nat.reduceLT, Nat.reduceSub, Nat.reduceLeDiff, Nat.reduceEqDiff, Nat.reduceBneDiff, Int.reduceToNat, decide_eq_true_eq, decide_eq_false_iff_not, beq_iff_eq, Int.toNat_natCast, loopK_normal, loopK_exit, loopK_ret]
              clear ev
              (repeat (refine And.intro ?_ ?_; focus (((repeat' apply And.intro) <;> first | exact rowsOf_w _ | omega | (simp only [List.length_append, rowsOf_len, List.length_cons, List.length_nil, marks_len, List.length_take, List.length_drop, List.length_set]; omega) | exact ⟨_, rfl⟩ | (refine ⟨_, rfl, ?_⟩; omega) | (refine ⟨_, rfl, ?_⟩; simp only [List.length_append, rowsOf_len, List.length_cons, List.length_nil, marks_len, List.length_take, List.length_drop, List.length_set]; omega) | kernel_rfl | (simp; done)); done)))
              exact ⟨_, rfl, rfl, rfl⟩
      · have co : (decide (0 < n) && pickV xs S.q n == n - 1) = false := by simpa using ho
        have ev : esV xs p n = (S.q + e, S.e) := by rw [esV, hL, if_neg ho, ← he]
        rw [ev]
        simp (maxSteps := 3000000) only [Try.f31, rdea, g_pick, g_odd, g_heardS, g_earHear, g_earRead, bytesOf_rows, rowsOf_len, ersOf_rows, erRows_len, d0, he0, co, hx, ↓reduceIte, Bool.false_eq_true, doneL_ret, doneL_normal, tYs, evL, implies_true, oMin, x_min3, oMin3, x_max, oMax, oCopy, oBin, oUn, oLoadKid, oStoreTree, oField, oExtract, oNil, oSliceQ, oSliceE, x_appendZ, oAppendZ, oSliceEnd, endMode, oLoadRow, takeCells, TS.atRow, TS.ex, treeMode, AV.isOwn, TK.isSl, nilTk, nilsB, oLenQ, oLen, nodupB, treeOf, kidAbs, kidRows, TK.isCell, D.toL, oLoad, oStore, oMake, oIndexAddr, ↓reduceIte, reduceCtorEq, Nat.reduceBEq, Nat.reduceAdd, Nat.reduceMul, Nat.reduceLT, Nat.reduceSub, Nat.reduceLeDiff, Nat.reduceEqDiff, Nat.reduceBneDiff, Int.reduceToNat, decide_eq_true_eq, decide_eq_false_iff_not, beq_iff_eq, Int.toNat_natCast, loopK_normal, loopK_exit, loopK_ret]
        clear ev
        (repeat (refine And.intro ?_ ?_; focus (((repeat' apply And.intro) <;> first | exact rowsOf_w _ | omega | (simp only [List.length_append, rowsOf_len, List.length_cons, List.length_nil, marks_len, List.length_take, List.length_drop, List.length_set]; omega) | exact ⟨_, rfl⟩ | (refine ⟨_, rfl, ?_⟩; omega) | (refine ⟨_, rfl, ?_⟩; simp only [List.length_append, rowsOf_len, List.length_cons, List.length_nil, marks_len, List.length_take, List.length_drop, List.length_set]; omega) | kernel_rfl | (simp; done)); done)))
        exact ⟨_, rfl, rfl, rfl⟩
  · cases hg
end Go.Proofs.Ytikcpbgnmdhilaa
