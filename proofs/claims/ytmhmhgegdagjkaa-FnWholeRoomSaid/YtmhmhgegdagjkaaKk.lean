import Derived.Test.YtmhmhgegdagjkaaKd
import Derived.Test.YtmhmhgegdagjkaaHa
import Derived.Test.YtmhmhgegdagjkaaKe
set_option linter.unusedVariables false
set_option linter.unusedSimpArgs false
namespace Go.Proofs.Ytmhmhgegdagjkaa
open Go.RowKit
set_option linter.unusedSimpArgs false
theorem nj_skip (xs : List UInt8) (M k : Int) (R : List RE) (u j : Int) (h : j = k) : njStep xs M k (R, u) j = (R, u) := if_pos h
theorem nj_none (xs : List UInt8) (M k : Int) (R : List RE) (u j : Int) (h : ¬ j = k) (h2 : ¬ 0 < pickV xs u 12) : njStep xs M k (R, u) j = (R, u + 1) := by rw [njStep, if_neg h, if_neg h2]
theorem nj_put (xs : List UInt8) (M k : Int) (R : List RE) (u j : Int) (h : ¬ j = k) (h2 : 0 < pickV xs u 12) {v q : Int} (hv : viaV xs M k j u = v) (hq : viaP xs u = q) : njStep xs M k (R, u) j = (putV R ⟨10 + j, 16, v, 3 + pickV xs q 4 * 4⟩, q + 1) := by
  rw [njStep, if_neg h, if_pos h2]
  dsimp only
  rw [hv, hq]
def g_net : OC := fun args B0 => match args, B0 with
  | [.ptr r o, .v (.int .i64 n)], [.var T [.l 1 rows, .v (.int .i64 p)]] => some (T = 107 ∧ r = 0 ∧ o = 0 ∧ (∃ xs, rows = rowsOfBytes xs ∧ xs.length ≤ 2000) ∧ 0 ≤ p ∧ p < 10000000000 ∧ 0 ≤ n ∧ n ≤ 1000000, .l 2 (stRows (netV (bytesOfRows rows) p n)), [.var T [.l 1 rows, .v (.int .i64 (netQ (bytesOfRows rows) p n))]], [])
  | _, _ => none
def knl : List (FuncId × Abs) := [(33, ownAbs g_pick), (73, ownAbs g_odd), (55, pureAbs g_routePut)]
theorem knl_ok : ∀ p ∈ knl, CallOk Try.prog p.1 p.2 := by
  intro p hp
  simp only [knl, List.mem_cons, List.not_mem_nil, or_false] at hp
  rcases hp with rfl | rfl | rfl
  · exact pick_ok.call
  · exact odd_ok.call
  · exact specRoutePut_ok.call
set_option maxHeartbeats 8000000 in
set_option maxRecDepth 100000 in
theorem l20Net_ok : OwnOk Try.prog 32 g_net := by
  refine OwnOk.of_vcL (G := knl) knl_ok mixed Try.func32 (by kernel_rfl) rfl ?_
  intro args B0 cnd r B1 bs hg hc hlive
  unfold g_net at hg
  split at hg
  · rename_i r o n T rows p
    cases hg
    obtain ⟨rfl, rfl, rfl, ⟨xs, rfl, hl⟩, hp0, hp1, hn0, hn1⟩ := hc
    rw [bytesOf_rows]
    have hMb := manyV_bd xs p (by omega)
    obtain ⟨M, hM⟩ : ∃ M : Nat, manyV xs p = (M : Int) := ⟨(manyV xs p).toNat, by omega⟩
    have hM2 : 1 + pickV xs p 5 = (M : Int) := hM
    rw [hM] at hMb
    have hNL : netL xs p = nkK xs (M : Int) (p + 1) M := by rw [netL, hM, Int.toNat_natCast]
    have w0 : IntKind.i64.wrap (1 + pickV xs p 5) = (M : Int) := by rw [hM2]; exact wrap_id (by omega) (by omega)
    refine ⟨⟨by simp [likeBs, likeB], rfl, fun b hb => by simp at hb; subst hb; exact ⟨_, _, rfl, rfl⟩, by simp [AV.ids, AV.ids.idsL]⟩, _, rfl, fun w Z s vs h => h, ?_⟩
    clear hlive
    have hx : (∃ ys, rowsOfBytes xs = rowsOfBytes ys ∧ ys.length ≤ 2000) = True := eq_true ⟨xs, rfl, hl⟩
    simp (maxSteps := 3000000) only [Try.f32, knl, g_pick, g_odd, g_routePut, bytesOf_rows, rtsOf_rows, rtRows_len, stRows_len, w0, hx, D.toI, D.toL, ↓reduceIte, Bool.false_eq_true, doneL_ret, doneL_normal, tYs, evL, implies_true, oMin, oCopy, oBin, oUn, oLoadKid, oStoreTree, oField, oExtract, oNil, oSliceQ, oLen, nodupB, treeOf, kidAbs, kidRows, TK.isCell, D.toL, oLoad, oStore, oMake, oIndexAddr, ↓reduceIte, reduceCtorEq, Nat.reduceBEq, Nat.reduceAdd, Nat.reduceMul, Nat.reduceLT, Nat.reduceSub, Nat.reduceLeDiff, Nat.reduceEqDiff, Nat.reduceBneDiff, Int.reduceToNat, decide_eq_true_eq, decide_eq_false_iff_not, beq_iff_eq, Int.toNat_natCast, loopK_normal, loopK_exit, loopK_ret]
    (repeat (refine And.intro ?_ ?_; focus (((repeat' apply And.intro) <;> first | exact rowsOf_w _ | omega | (simp only [List.length_append, rowsOf_len, List.length_cons, List.length_nil, marks_len, List.length_take, List.length_drop, List.length_set]; omega) | exact ⟨_, rfl⟩ | (refine ⟨_, rfl, ?_⟩; omega) | (refine ⟨_, rfl, ?_⟩; simp only [List.length_append, rowsOf_len, List.length_cons, List.length_nil, marks_len, List.length_take, List.length_drop, List.length_set]; omega) | kernel_rfl | (simp; done)); done)))
    refine e_loop _ _ _ _ _ _ _ _ (fun x : Nat × List St × Int => [.ptr 0 0, .v (.int .i64 n), .any, .any, .any, .v (.int .i64 (M : Int)), .own 1, .v (.int .i64 (x.1 : Int))] ++ List.replicate (Try.f32.ntmps - 8) .any) (fun x => [(0, .var 107 [.l 1 (rowsOfBytes xs), .v (.int .i64 x.2.2)]), (1, .sl 47 2 (stRows x.2.1))]) (fun x => x.1 ≤ M ∧ (x.2.1, x.2.2) = nkK xs (M : Int) (p + 1) x.1) (fun x => M - x.1) 2 (fun x => by simp) ?_ fun x hk' => ?_
    · exact ⟨(0, [], p + 1), [(0, some 0), (1, some _)], ⟨Nat.zero_le _, rfl⟩, ⟨⟨⟨rfl, rfl, rfl⟩, ⟨rfl, rfl, rfl⟩, trivial, trivial, trivial, ⟨rfl, rfl, rfl⟩, ⟨rfl, rfl, rfl⟩, ⟨rfl, rfl, rfl⟩, fitT_rep _ _ rfl⟩, ⟨.inl rfl, rfl, rfl, rfl, .inl rfl, rfl, rfl, rfl, trivial⟩, by simp [rn, hpAt]⟩, by simp [keepIds, rn]⟩
    obtain ⟨k, L, q⟩ := x
    obtain ⟨hk1, hLq⟩ := hk'
    dsimp only at hk1 hLq
    have hbd := nkK_bd xs (M : Int) (p + 1) (by omega) k
    rw [← hLq] at hbd
    dsimp only at hbd
    obtain ⟨hL1, hL2, hq0, hq1⟩ := hbd
    have w2 : IntKind.i64.wrap ((k : Int) + 1) = ((k + 1 : Nat) : Int) := wrap_id (by omega) (by omega)
    have w3 : IntKind.i64.wrap (10 + (k : Int)) = 10 + (k : Int) := wrap_id (by omega) (by omega)
    by_cases hk : k < M
    · have hg1 : ((k : Int) < (M : Int)) = True := eq_true (by omega)
      simp (maxSteps := 3000000) only [Try.f32, knl, g_pick, g_odd, g_routePut, bytesOf_rows, rtsOf_rows, rtRows_len, stRows_len, hg1, w2, w3, hx, D.toI, D.toL, ↓reduceIte, Bool.false_eq_true, doneL_ret, doneL_normal, tYs, evL, implies_true, oMin, oCopy, oBin, oUn, oLoadKid, oStoreTree, oField, oExtract, oNil, oSliceQ, oLen, nodupB, treeOf, kidAbs, kidRows, TK.isCell, D.toL, oLoad, oStore, oMake, oIndexAddr, ↓reduceIte, reduceCtorEq, Nat.reduceBEq, Nat.reduceAdd, Nat.reduceMul, Nat.reduceLT, Nat.reduceSub, Nat.reduceLeDiff, Nat.reduceEqDiff, Nat.reduceBneDiff, Int.reduceToNat, decide_eq_true_eq, decide_eq_false_iff_not, beq_iff_eq, Int.toNat_natCast, loopK_normal, loopK_exit, loopK_ret]
      refine e_loop _ _ _ _ _ _ _ _ (fun y : Nat × List RE × Int => [.ptr 0 0, .v (.int .i64 n), .any, .any, .any, .v (.int .i64 (M : Int)), .own 1, .v (.int .i64 (k : Int)), .ptr 2 0, .v (.int .i64 (y.1 : Int))] ++ List.replicate (Try.f32.ntmps - 10) .any) (fun y => [(0, .var 107 [.l 1 (rowsOfBytes xs), .v (.int .i64 y.2.2)]), (1, .sl 47 2 (stRows L)), (2, .var 47 [.v (.int .i64 (10 + (k : Int))), .own 3]), (3, .sl 75 4 (rtRows y.2.1))]) (fun y => y.1 ≤ M ∧ (y.2.1, y.2.2) = njK xs (M : Int) (k : Int) q y.1) (fun y => M - y.1) 4 (fun y => by simp) ?_ fun y hj' => ?_
      · exact ⟨(0, [], q), [(0, some 0), (1, some _), (2, some _), (3, none)], ⟨Nat.zero_le _, rfl⟩, ⟨⟨⟨rfl, rfl, rfl⟩, ⟨rfl, rfl, rfl⟩, trivial, trivial, trivial, ⟨rfl, rfl, rfl⟩, ⟨rfl, rfl, rfl⟩, ⟨rfl, rfl, rfl⟩, ⟨rfl, rfl, rfl⟩, ⟨rfl, rfl, rfl⟩, fitT_rep _ _ rfl⟩, ⟨.inl rfl, rfl, rfl, rfl, .inl rfl, rfl, rfl, rfl, .inl rfl, rfl, rfl, rfl, ⟨by omega, rfl⟩, rfl, rfl, rfl, trivial⟩, by simp [rn, hpAt]⟩, by simp [keepIds, rn]⟩
      obtain ⟨j, R, u⟩ := y
      obtain ⟨hj1, hRu⟩ := hj'
      dsimp only at hj1 hRu
      have hbj := njK_bd xs (M : Int) (k : Int) q j
      rw [← hRu] at hbj
      dsimp only at hbj
      obtain ⟨hR8, hu0, hu1⟩ := hbj
      have v2 : IntKind.i64.wrap ((j : Int) + 1) = ((j + 1 : Nat) : Int) := wrap_id (by omega) (by omega)
      by_cases hj : j < M
      · have hh1 : ((j : Int) < (M : Int)) = True := eq_true (by omega)
        by_cases hjk : j = k
        · have hn1 : ((j : Int) != (k : Int)) = false := by simp [hjk]
          simp (maxSteps := 3000000) only [Try.f32, knl, g_pick, g_odd, g_routePut, bytesOf_rows, rtsOf_rows, rtRows_len, stRows_len, hh1, hn1, v2, hx, D.toI, D.toL, ↓reduceIte, Bool.false_eq_true, doneL_ret, doneL_normal, tYs, evL, implies_true, oMin, oCopy, oBin, oUn, oLoadKid, oStoreTree, oField, oExtract, oNil, oSliceQ, oLen, nodupB, treeOf, kidAbs, kidRows, TK.isCell, D.toL, oLoad, oStore, oMake, oIndexAddr, ↓reduceIte, reduceCtorEq, Nat.reduceBEq, Nat.reduceAdd, Nat.reduceMul, Nat.reduceLT, Nat.reduceSub, Nat.reduceLeDiff, Nat.reduceEqDiff, Nat.reduceBneDiff, Int.reduceToNat, decide_eq_true_eq, decide_eq_false_iff_not, beq_iff_eq, Int.toNat_natCast, loopK_normal, loopK_exit, loopK_ret]
          exact ⟨(j + 1, R, u), [(0, some 0), (1, some _), (2, some _), (3, some _)], ⟨by dsimp only; omega, by dsimp only; rw [njK, ← hRu]; exact (nj_skip xs (M : Int) (k : Int) R u (j : Int) (by omega)).symm⟩, by dsimp only; omega, ⟨⟨⟨rfl, rfl, rfl⟩, ⟨rfl, rfl, rfl⟩, trivial, trivial, trivial, ⟨rfl, rfl, rfl⟩, ⟨rfl, rfl, rfl⟩, ⟨rfl, rfl, rfl⟩, ⟨rfl, rfl, rfl⟩, ⟨rfl, rfl, rfl⟩, fitT_rep _ _ rfl⟩, ⟨.inl rfl, rfl, rfl, rfl, .inl rfl, rfl, rfl, rfl, .inl rfl, rfl, rfl, rfl, .inl rfl, rfl, rfl, rfl, trivial⟩, by simp [rn, hpAt]⟩, by simp [keepIds, rn]⟩
        · have hn1 : ((j : Int) != (k : Int)) = true := by
            rw [bne_iff_ne]; omega
          by_cases h12 : 0 < pickV xs u 12
          · have c12 : (pickV xs u 12 > 0) = True := eq_true h12
            have v3 : IntKind.i64.wrap (10 + (j : Int)) = 10 + (j : Int) := wrap_id (by omega) (by omega)
            have v4 : IntKind.i64.wrap (10 + (k : Int) + 1) = 10 + (k : Int) + 1 := wrap_id (by omega) (by omega)
            have v5 : IntKind.i64.wrap (10 + (k : Int) - 1) = 10 + (k : Int) - 1 := wrap_id (by omega) (by omega)
            have v6 : IntKind.i64.wrap ((M : Int) + 1) = (M : Int) + 1 := wrap_id (by omega) (by omega)
            have a1 := pickV_nonneg xs (u + 1 + 1) ((M : Int) + 1) (by omega)
            have a2 := pickV_lt xs (u + 1 + 1) ((M : Int) + 1) (by omega)
            have v7 : IntKind.i64.wrap (10 + pickV xs (u + 1 + 1) ((M : Int) + 1)) = 10 + pickV xs (u + 1 + 1) ((M : Int) + 1) := wrap_id (by omega) (by omega)
            by_cases hz : pickV xs (u + 1) 20 = 0
            · have c20 : (pickV xs (u + 1) 20 = 0) = True := eq_true hz
              by_cases hl : (j : Int) < (k : Int)
              · have hlt : ((j : Int) < (k : Int)) = True := eq_true hl
                have hvp : viaP xs u = u + 1 + 1 + 1 := by rw [viaP, if_pos hz]
                have hvv : viaV xs (M : Int) (k : Int) (j : Int) u = 10 + pickV xs (u + 1 + 1) ((M : Int) + 1) := by rw [viaV, if_pos hz]
                have b1 := pickV_nonneg xs (u + 1 + 1 + 1) 4 (by omega)
                have b2 := pickV_lt xs (u + 1 + 1 + 1) 4 (by omega)
                have w5 : IntKind.i64.wrap (pickV xs (u + 1 + 1 + 1) 4 * 4) = pickV xs (u + 1 + 1 + 1) 4 * 4 := wrap_id (by omega) (by omega)
                have w6 : IntKind.i64.wrap (3 + pickV xs (u + 1 + 1 + 1) 4 * 4) = 3 + pickV xs (u + 1 + 1 + 1) 4 * 4 := wrap_id (by omega) (by omega)
                simp (maxSteps := 3000000) only [Try.f32, knl, g_pick, g_odd, g_routePut, bytesOf_rows, rtsOf_rows, rtRows_len, stRows_len, hh1, hn1, c12, v2, w3, v3, v4, v5, v6, v7, hlt, c20, w5, w6, hx, D.toI, D.toL, ↓reduceIte, Bool.false_eq_true, doneL_ret, doneL_normal, tYs, evL, implies_true, oMin, oCopy, oBin, oUn, oLoadKid, oStoreTree, oField, oExtract, oNil, oSliceQ, oLen, nodupB, treeOf, kidAbs, kidRows, TK.isCell, D.toL, oLoad, oStore, oMake, oIndexAddr, ↓reduceIte, reduceCtorEq, Nat.reduceBEq, Nat.reduceAdd, Nat.reduceMul, Nat.reduceLT, Nat.reduceSub, Nat.reduceLeDiff, Nat.reduceEqDiff, Nat.reduceBneDiff, Int.reduceToNat, decide_eq_true_eq, decide_eq_false_iff_not, beq_iff_eq, Int.toNat_natCast, loopK_normal, loopK_exit, loopK_ret]
                clear w5 w6
                repeat' first
                  | refine And.intro (by omega) ?_
                  | refine And.intro ⟨by omega, by omega⟩ ?_
                  | refine And.intro ⟨by omega, by omega, by omega⟩ ?_
                  | refine And.intro ⟨by omega, by omega, by omega, by omega⟩ ?_
                  | refine And.intro ⟨R, rfl, by omega⟩ ?_
                  | refine And.intro (by kernel_rfl) ?_
                exact ⟨(j + 1, putV R ⟨10 + (j : Int), 16, 10 + pickV xs (u + 1 + 1) ((M : Int) + 1), 3 + pickV xs (u + 1 + 1 + 1) 4 * 4⟩, u + 1 + 1 + 1 + 1), [(0, some 0), (1, some _), (2, some _), (3, some _)], ⟨by dsimp only; omega, by dsimp only; rw [njK, ← hRu]; exact (nj_put xs (M : Int) (k : Int) R u (j : Int) (by omega) h12 hvv hvp).symm⟩, by dsimp only; omega, ⟨⟨⟨rfl, rfl, rfl⟩, ⟨rfl, rfl, rfl⟩, trivial, trivial, trivial, ⟨rfl, rfl, rfl⟩, ⟨rfl, rfl, rfl⟩, ⟨rfl, rfl, rfl⟩, ⟨rfl, rfl, rfl⟩, ⟨rfl, rfl, rfl⟩, fitT_rep _ _ rfl⟩, ⟨.inl rfl, rfl, rfl, rfl, .inl rfl, rfl, rfl, rfl, .inl rfl, rfl, rfl, rfl, .inl rfl, rfl, rfl, rfl, trivial⟩, by simp [rn, hpAt]⟩, by simp [keepIds, rn]⟩
              · have hlt : ((j : Int) < (k : Int)) = False := eq_false hl
                have hvp : viaP xs u = u + 1 + 1 + 1 := by rw [viaP, if_pos hz]
                have hvv : viaV xs (M : Int) (k : Int) (j : Int) u = 10 + pickV xs (u + 1 + 1) ((M : Int) + 1) := by rw [viaV, if_pos hz]
                have b1 := pickV_nonneg xs (u + 1 + 1 + 1) 4 (by omega)
                have b2 := pickV_lt xs (u + 1 + 1 + 1) 4 (by omega)
                have w5 : IntKind.i64.wrap (pickV xs (u + 1 + 1 + 1) 4 * 4) = pickV xs (u + 1 + 1 + 1) 4 * 4 := wrap_id (by omega) (by omega)
                have w6 : IntKind.i64.wrap (3 + pickV xs (u + 1 + 1 + 1) 4 * 4) = 3 + pickV xs (u + 1 + 1 + 1) 4 * 4 := wrap_id (by omega) (by omega)
                simp (maxSteps := 3000000) only [Try.f32, knl, g_pick, g_odd, g_routePut, bytesOf_rows, rtsOf_rows, rtRows_len, stRows_len, hh1, hn1, c12, v2, w3, v3, v4, v5, v6, v7, hlt, c20, w5, w6, hx, D.toI, D.toL, ↓reduceIte, Bool.false_eq_true, doneL_ret, doneL_normal, tYs, evL, implies_true, oMin, oCopy, oBin, oUn, oLoadKid, oStoreTree, oField, oExtract, oNil, oSliceQ, oLen, nodupB, treeOf, kidAbs, kidRows, TK.isCell, D.toL, oLoad, oStore, oMake, oIndexAddr, ↓reduceIte, reduceCtorEq, Nat.reduceBEq, Nat.reduceAdd, Nat.reduceMul, Nat.reduceLT, Nat.reduceSub, Nat.reduceLeDiff, Nat.reduceEqDiff, Nat.reduceBneDiff, Int.reduceToNat, decide_eq_true_eq, decide_eq_false_iff_not, beq_iff_eq, Int.toNat_natCast, loopK_normal, loopK_exit, loopK_ret]
                clear w5 w6
                repeat' first
                  | refine And.intro (by omega) ?_
                  | refine And.intro ⟨by omega, by omega⟩ ?_
                  | refine And.intro ⟨by omega, by omega, by omega⟩ ?_
                  | refine And.intro ⟨by omega, by omega, by omega, by omega⟩ ?_
                  | refine And.intro ⟨R, rfl, by omega⟩ ?_
                  | refine And.intro (by kernel_rfl) ?_
                exact ⟨(j + 1, putV R ⟨10 + (j : Int), 16, 10 + pickV xs (u + 1 + 1) ((M : Int) + 1), 3 + pickV xs (u + 1 + 1 + 1) 4 * 4⟩, u + 1 + 1 + 1 + 1), [(0, some 0), (1, some _), (2, some _), (3, some _)], ⟨by dsimp only; omega, by dsimp only; rw [njK, ← hRu]; exact (nj_put xs (M : Int) (k : Int) R u (j : Int) (by omega) h12 hvv hvp).symm⟩, by dsimp only; omega, ⟨⟨⟨rfl, rfl, rfl⟩, ⟨rfl, rfl, rfl⟩, trivial, trivial, trivial, ⟨rfl, rfl, rfl⟩, ⟨rfl, rfl, rfl⟩, ⟨rfl, rfl, rfl⟩, ⟨rfl, rfl, rfl⟩, ⟨rfl, rfl, rfl⟩, fitT_rep _ _ rfl⟩, ⟨.inl rfl, rfl, rfl, rfl, .inl rfl, rfl, rfl, rfl, .inl rfl, rfl, rfl, rfl, .inl rfl, rfl, rfl, rfl, trivial⟩, by simp [rn, hpAt]⟩, by simp [keepIds, rn]⟩
            · have c20 : (pickV xs (u + 1) 20 = 0) = False := eq_false hz
              by_cases hl : (j : Int) < (k : Int)
              · have hlt : ((j : Int) < (k : Int)) = True := eq_true hl
                have hvp : viaP xs u = u + 1 + 1 := by rw [viaP, if_neg hz]
                have hvv : viaV xs (M : Int) (k : Int) (j : Int) u = 10 + (k : Int) - 1 := by rw [viaV, if_neg hz, if_pos hl]
                have b1 := pickV_nonneg xs (u + 1 + 1) 4 (by omega)
                have b2 := pickV_lt xs (u + 1 + 1) 4 (by omega)
                have w5 : IntKind.i64.wrap (pickV xs (u + 1 + 1) 4 * 4) = pickV xs (u + 1 + 1) 4 * 4 := wrap_id (by omega) (by omega)
                have w6 : IntKind.i64.wrap (3 + pickV xs (u + 1 + 1) 4 * 4) = 3 + pickV xs (u + 1 + 1) 4 * 4 := wrap_id (by omega) (by omega)
                simp (maxSteps := 3000000) only [Try.f32, knl, g_pick, g_odd, g_routePut, bytesOf_rows, rtsOf_rows, rtRows_len, stRows_len, hh1, hn1, c12, v2, w3, v3, v4, v5, v6, v7, hlt, c20, w5, w6, hx, D.toI, D.toL, ↓reduceIte, Bool.false_eq_true, doneL_ret, doneL_normal, tYs, evL, implies_true, oMin, oCopy, oBin, oUn, oLoadKid, oStoreTree, oField, oExtract, oNil, oSliceQ, oLen, nodupB, treeOf, kidAbs, kidRows, TK.isCell, D.toL, oLoad, oStore, oMake, oIndexAddr, ↓reduceIte, reduceCtorEq, Nat.reduceBEq, Nat.reduceAdd, Nat.reduceMul, Nat.reduceLT, Nat.reduceSub, Nat.reduceLeDiff, Nat.reduceEqDiff, Nat.reduceBneDiff, Int.reduceToNat, decide_eq_true_eq, decide_eq_false_iff_not, beq_iff_eq, Int.toNat_natCast, loopK_normal, loopK_exit, loopK_ret]
                clear w5 w6
                repeat' first
                  | refine And.intro (by omega) ?_
                  | refine And.intro ⟨by omega, by omega⟩ ?_
                  | refine And.intro ⟨by omega, by omega, by omega⟩ ?_
                  | refine And.intro ⟨by omega, by omega, by omega, by omega⟩ ?_
                  | refine And.intro ⟨R, rfl, by omega⟩ ?_
                  | refine And.intro (by kernel_rfl) ?_
                exact ⟨(j + 1, putV R ⟨10 + (j : Int), 16, 10 + (k : Int) - 1, 3 + pickV xs (u + 1 + 1) 4 * 4⟩, u + 1 + 1 + 1), [(0, some 0), (1, some _), (2, some _), (3, some _)], ⟨by dsimp only; omega, by dsimp only; rw [njK, ← hRu]; exact (nj_put xs (M : Int) (k : Int) R u (j : Int) (by omega) h12 hvv hvp).symm⟩, by dsimp only; omega, ⟨⟨⟨rfl, rfl, rfl⟩, ⟨rfl, rfl, rfl⟩, trivial, trivial, trivial, ⟨rfl, rfl, rfl⟩, ⟨rfl, rfl, rfl⟩, ⟨rfl, rfl, rfl⟩, ⟨rfl, rfl, rfl⟩, ⟨rfl, rfl, rfl⟩, fitT_rep _ _ rfl⟩, ⟨.inl rfl, rfl, rfl, rfl, .inl rfl, rfl, rfl, rfl, .inl rfl, rfl, rfl, rfl, .inl rfl, rfl, rfl, rfl, trivial⟩, by simp [rn, hpAt]⟩, by simp [keepIds, rn]⟩
              · have hlt : ((j : Int) < (k : Int)) = False := eq_false hl
                have hvp : viaP xs u = u + 1 + 1 := by rw [viaP, if_neg hz]
                have hvv : viaV xs (M : Int) (k : Int) (j : Int) u = 10 + (k : Int) + 1 := by rw [viaV, if_neg hz, if_neg hl]
                have b1 := pickV_nonneg xs (u + 1 + 1) 4 (by omega)
                have b2 := pickV_lt xs (u + 1 + 1) 4 (by omega)
                have w5 : IntKind.i64.wrap (pickV xs (u + 1 + 1) 4 * 4) = pickV xs (u + 1 + 1) 4 * 4 := wrap_id (by omega) (by omega)
                have w6 : IntKind.i64.wrap (3 + pickV xs (u + 1 + 1) 4 * 4) = 3 + pickV xs (u + 1 + 1) 4 * 4 := wrap_id (by omega) (by omega)
                simp (maxSteps := 3000000) only [Try.f32, knl, g_pick, g_odd, g_routePut, bytesOf_rows, rtsOf_rows, rtRows_len, stRows_len, hh1, hn1, c12, v2, w3, v3, v4, v5, v6, v7, hlt, c20, w5, w6, hx, D.toI, D.toL, ↓reduceIte, Bool.false_eq_true, doneL_ret, doneL_normal, tYs, evL, implies_true, oMin, oCopy, oBin, oUn, oLoadKid, oStoreTree, oField, oExtract, oNil, oSliceQ, oLen, nodupB, treeOf, kidAbs, kidRows, TK.isCell, D.toL, oLoad, oStore, oMake, oIndexAddr, ↓reduceIte, reduceCtorEq, Nat.reduceBEq, Nat.reduceAdd, Nat.reduceMul, Nat.reduceLT, Nat.reduceSub, Nat.reduceLeDiff, Nat.reduceEqDiff, Nat.reduceBneDiff, Int.reduceToNat, decide_eq_true_eq, decide_eq_false_iff_not, beq_iff_eq, Int.toNat_natCast, loopK_normal, loopK_exit, loopK_ret]
                clear w5 w6
                repeat' first
                  | refine And.intro (by omega) ?_
                  | refine And.intro ⟨by omega, by omega⟩ ?_
                  | refine And.intro ⟨by omega, by omega, by omega⟩ ?_
                  | refine And.intro ⟨by omega, by omega, by omega, by omega⟩ ?_
                  | refine And.intro ⟨R, rfl, by omega⟩ ?_
                  | refine And.intro (by kernel_rfl) ?_
                exact ⟨(j + 1, putV R ⟨10 + (j : Int), 16, 10 + (k : Int) + 1, 3 + pickV xs (u + 1 + 1) 4 * 4⟩, u + 1 + 1 + 1), [(0, some 0), (1, some _), (2, some _), (3, some _)], ⟨by dsimp only; omega, by dsimp only; rw [njK, ← hRu]; exact (nj_put xs (M : Int) (k : Int) R u (j : Int) (by omega) h12 hvv hvp).symm⟩, by dsimp only; omega, ⟨⟨⟨rfl, rfl, rfl⟩, ⟨rfl, rfl, rfl⟩, trivial, trivial, trivial, ⟨rfl, rfl, rfl⟩, ⟨rfl, rfl, rfl⟩, ⟨rfl, rfl, rfl⟩, ⟨rfl, rfl, rfl⟩, ⟨rfl, rfl, rfl⟩, fitT_rep _ _ rfl⟩, ⟨.inl rfl, rfl, rfl, rfl, .inl rfl, rfl, rfl, rfl, .inl rfl, rfl, rfl, rfl, .inl rfl, rfl, rfl, rfl, trivial⟩, by simp [rn, hpAt]⟩, by simp [keepIds, rn]⟩
          · have c12 : (pickV xs u 12 > 0) = False := eq_false h12
            simp (maxSteps := 3000000) only [Try.f32, knl, g_pick, g_odd, g_routePut, bytesOf_rows, rtsOf_rows, rtRows_len, stRows_len, hh1, hn1, c12, v2, hx, D.toI, D.toL, ↓reduceIte, Bool.false_eq_true, doneL_ret, doneL_normal, tYs, evL, implies_true, oMin, oCopy, oBin, oUn, oLoadKid, oStoreTree, oField, oExtract, oNil, oSliceQ, oLen, nodupB, treeOf, kidAbs, kidRows, TK.isCell, D.toL, oLoad, oStore, oMake, oIndexAddr, ↓reduceIte, reduceCtorEq, Nat.reduceBEq, Nat.reduceAdd, Nat.reduceMul, Nat.reduceLT, Nat.reduceSub, Nat.reduceLeDiff, Nat.reduceEqDiff, Nat.reduceBneDiff, Int.reduceToNat, decide_eq_true_eq, decide_eq_false_iff_not, beq_iff_eq, Int.toNat_natCast, loopK_normal, loopK_exit, loopK_ret]
            refine ⟨⟨by omega, by omega⟩, ?_⟩
            exact ⟨(j + 1, R, u + 1), [(0, some 0), (1, some _), (2, some _), (3, some _)], ⟨by dsimp only; omega, by dsimp only; rw [njK, ← hRu]; exact (nj_none xs (M : Int) (k : Int) R u (j : Int) (by omega) h12).symm⟩, by dsimp only; omega, ⟨⟨⟨rfl, rfl, rfl⟩, ⟨rfl, rfl, rfl⟩, trivial, trivial, trivial, ⟨rfl, rfl, rfl⟩, ⟨rfl, rfl, rfl⟩, ⟨rfl, rfl, rfl⟩, ⟨rfl, rfl, rfl⟩, ⟨rfl, rfl, rfl⟩, fitT_rep _ _ rfl⟩, ⟨.inl rfl, rfl, rfl, rfl, .inl rfl, rfl, rfl, rfl, .inl rfl, rfl, rfl, rfl, .inl rfl, rfl, rfl, rfl, trivial⟩, by simp [rn, hpAt]⟩, by simp [keepIds, rn]⟩
      · have hh1 : ((j : Int) < (M : Int)) = False := eq_false (by omega)
        obtain rfl : j = M := by omega
        have a1 := pickV_nonneg xs (u + 1) (j : Int) (by omega)
        have a2 := pickV_lt xs (u + 1) (j : Int) (by omega)
        have v3 : IntKind.i64.wrap (10 + pickV xs (u + 1) (j : Int)) = 10 + pickV xs (u + 1) (j : Int) := wrap_id (by omega) (by omega)
        have hst : ∀ R' u', nkEnd xs (j : Int) (R, u) = (R', u') → (L ++ [⟨10 + (k : Int), R'⟩], u') = nkK xs (j : Int) (p + 1) (k + 1) := fun R' u' h => by
          rw [nkK, ← hLq]
          dsimp only
          rw [Int.toNat_natCast, ← hRu, h]
        by_cases h4 : pickV xs u 4 = 0
        · have c4 : (pickV xs u 4 = 0) = True := eq_true h4
          have eS : stRows L ++ [[D.v (.int .i64 (10 + (k : Int))), D.l 4 (rtRows (putV R ⟨0, 0, 10 + pickV xs (u + 1) (j : Int), 8⟩))]] = stRows (L ++ [⟨10 + (k : Int), putV R ⟨0, 0, 10 + pickV xs (u + 1) (j : Int), 8⟩⟩]) := stRows_app L [⟨10 + (k : Int), putV R ⟨0, 0, 10 + pickV xs (u + 1) (j : Int), 8⟩⟩]
          simp (maxSteps := 3000000) only [Try.f32, knl, g_pick, g_odd, g_routePut, bytesOf_rows, rtsOf_rows, rtRows_len, stRows_len, hh1, c4, v3, w2, eS, hx, D.toI, D.toL, ↓reduceIte, Bool.false_eq_true, doneL_ret, doneL_normal, tYs, evL, implies_true, oMin, oCopy, oBin, oUn, oLoadKid, oStoreTree, oField, oExtract, oNil, oSliceQ, oLen, nodupB, treeOf, kidAbs, kidRows, TK.isCell, D.toL, oLoad, oStore, oMake, oIndexAddr, ↓reduceIte, reduceCtorEq, Nat.reduceBEq, Nat.reduceAdd, Nat.reduceMul, Nat.reduceLT, Nat.reduceSub, Nat.reduceLeDiff, Nat.reduceEqDiff, Nat.reduceBneDiff, Int.reduceToNat, decide_eq_true_eq, decide_eq_false_iff_not, beq_iff_eq, Int.toNat_natCast, loopK_normal, loopK_exit, loopK_ret]
          refine ⟨⟨by omega, by omega⟩, ⟨by omega, by omega⟩, ⟨R, rfl, by omega⟩, by kernel_rfl, ⟨by omega, by omega, by simp⟩, ?_⟩
          exact ⟨(k + 1, L ++ [⟨10 + (k : Int), putV R ⟨0, 0, 10 + pickV xs (u + 1) (j : Int), 8⟩⟩], u + 1 + 1), [(0, some 0), (1, some _)], ⟨by dsimp only; omega, hst _ _ (by rw [nkEnd, if_pos h4])⟩, by dsimp only; omega, ⟨⟨⟨rfl, rfl, rfl⟩, ⟨rfl, rfl, rfl⟩, trivial, trivial, trivial, ⟨rfl, rfl, rfl⟩, ⟨rfl, rfl, rfl⟩, ⟨rfl, rfl, rfl⟩, fitT_rep _ _ rfl⟩, ⟨.inl rfl, rfl, rfl, rfl, .inl rfl, rfl, rfl, rfl, trivial⟩, by simp [rn, hpAt]⟩, by simp [keepIds, rn]⟩
        · have c4 : (pickV xs u 4 = 0) = False := eq_false h4
          have eS : stRows L ++ [[D.v (.int .i64 (10 + (k : Int))), D.l 4 (rtRows R)]] = stRows (L ++ [⟨10 + (k : Int), R⟩]) := stRows_app L [⟨10 + (k : Int), R⟩]
          simp (maxSteps := 3000000) only [Try.f32, knl, g_pick, g_odd, g_routePut, bytesOf_rows, rtsOf_rows, rtRows_len, stRows_len, hh1, c4, w2, eS, hx, D.toI, D.toL, ↓reduceIte, Bool.false_eq_true, doneL_ret, doneL_normal, tYs, evL, implies_true, oMin, oCopy, oBin, oUn, oLoadKid, oStoreTree, oField, oExtract, oNil, oSliceQ, oLen, nodupB, treeOf, kidAbs, kidRows, TK.isCell, D.toL, oLoad, oStore, oMake, oIndexAddr, ↓reduceIte, reduceCtorEq, Nat.reduceBEq, Nat.reduceAdd, Nat.reduceMul, Nat.reduceLT, Nat.reduceSub, Nat.reduceLeDiff, Nat.reduceEqDiff, Nat.reduceBneDiff, Int.reduceToNat, decide_eq_true_eq, decide_eq_false_iff_not, beq_iff_eq, Int.toNat_natCast, loopK_normal, loopK_exit, loopK_ret]
          refine ⟨⟨by omega, by omega⟩, ⟨by omega, by omega, by simp⟩, ?_⟩
          exact ⟨(k + 1, L ++ [⟨10 + (k : Int), R⟩], u + 1), [(0, some 0), (1, some _)], ⟨by dsimp only; omega, hst _ _ (by rw [nkEnd, if_neg h4])⟩, by dsimp only; omega, ⟨⟨⟨rfl, rfl, rfl⟩, ⟨rfl, rfl, rfl⟩, trivial, trivial, trivial, ⟨rfl, rfl, rfl⟩, ⟨rfl, rfl, rfl⟩, ⟨rfl, rfl, rfl⟩, fitT_rep _ _ rfl⟩, ⟨.inl rfl, rfl, rfl, rfl, .inl rfl, rfl, rfl, rfl, trivial⟩, by simp [rn, hpAt]⟩, by simp [keepIds, rn]⟩
    · have hg1 : ((k : Int) < (M : Int)) = False := eq_false (by omega)
      obtain rfl : k = M := by omega
      have hL0 : 0 < L.length := by omega
      have hrow := stRows_get L 0 hL0
      have hL0' : (0 < (L.length : Int)) = True := eq_true (by omega)
      have hNL' : netL xs p = (L, q) := by rw [hNL, hLq]
      obtain ⟨e, he⟩ : ∃ e, e = oneIf n := ⟨_, rfl⟩
      have he' : (if 0 < n then (1 : Int) else 0) = e := he.symm
      have hq2 : netQ xs p n = q + e := by rw [netQ, hNL', he]
      rw [hq2]
      have eS : stRows L ++ [[D.v (.int .i64 L[0].a), D.l 4 (rtRows L[0].rs)]] = stRows (L ++ [L[0]]) := stRows_app L [_]
      simp (maxSteps := 3000000) only [Try.f32, knl, g_pick, g_odd, g_routePut, bytesOf_rows, rtsOf_rows, rtRows_len, stRows_len, hg1, w2, w3, hrow, hL0', he', eS, hx, D.toI, D.toL, ↓reduceIte, Bool.false_eq_true, doneL_ret, doneL_normal, tYs, evL, implies_true, oMin, oCopy, oBin, oUn, oLoadKid, oStoreTree, oField, oExtract, oNil, oSliceQ, oLen, nodupB, treeOf, kidAbs, kidRows, TK.isCell, D.toL, oLoad, oStore, oMake, oIndexAddr, ↓reduceIte, reduceCtorEq, Nat.reduceBEq, Nat.reduceAdd, Nat.reduceMul, Nat.reduceLT, Nat.reduceSub, Nat.reduceLeDiff, Nat.reduceEqDiff, Nat.reduceBneDiff, Int.reduceToNat, decide_eq_true_eq, decide_eq_false_iff_not, beq_iff_eq, Int.toNat_natCast, loopK_normal, loopK_exit, loopK_ret]
      refine ⟨⟨by omega, by omega, by omega, by omega⟩, ?_⟩
      by_cases ho : (decide (0 < n) && pickV xs q n == n - 1) = true
      · have e2 : netV xs p n = L ++ [L[0]] := by rw [netV, hNL']; dsimp only; rw [oddB, if_pos ho, st_get hL0]
        rw [if_pos ho, e2]
        refine ⟨by omega, hL0, ⟨by omega, by omega, by simp⟩, ?_⟩
        exact ⟨_, rfl, rfl, rfl⟩
      · have e2 : netV xs p n = L := by rw [netV, hNL']; dsimp only; rw [oddB, if_neg ho]
        rw [if_neg ho, e2]
        exact ⟨_, rfl, rfl, rfl⟩
  · cases hg
end Go.Proofs.Ytmhmhgegdagjkaa
