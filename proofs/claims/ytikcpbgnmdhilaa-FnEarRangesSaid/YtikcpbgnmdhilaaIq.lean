import Derived.Test.YtikcpbgnmdhilaaIm
set_option linter.unusedVariables false
set_option linter.unusedSimpArgs false
namespace Go.Proofs.Ytikcpbgnmdhilaa
open Go.RowKit
set_option linter.unusedSimpArgs false
theorem rnK_f {l : List Er} {n : Int} (hs : erS l) (hn : ∀ x ∈ l, n < x.p) {k : Nat} (hk : k < (rnK l l.length).length) : n < (rnK l l.length)[k].f ∧ (rnK l l.length)[k].f < (rnK l l.length)[k].t ∧ (∀ p : Int, (rnK l l.length)[k].f ≤ p → p < (rnK l l.length)[k].t → (l.any fun x => x.p == p) = true) := by
  obtain ⟨h1, _⟩ := rnK_all hs hn l.length (Nat.le_refl _)
  obtain ⟨a, b, c⟩ := h1 _ (List.getElem_mem hk)
  refine ⟨a, b, fun p h h' => ?_⟩
  obtain ⟨x, hx, e⟩ := c p h h'
  rw [List.take_length] at hx
  exact List.any_eq_true.2 ⟨x, hx, beq_iff_eq.2 e⟩
theorem rnK_gap {l : List Er} {n : Int} (hs : erS l) (hn : ∀ x ∈ l, n < x.p) {k : Nat} (hk : k + 1 < (rnK l l.length).length) : (rnK l l.length)[k].t < (rnK l l.length)[k + 1].f := by
  obtain ⟨_, h2, _⟩ := rnK_all hs hn l.length (Nat.le_refl _)
  have := List.pairwise_iff_getElem.1 h2 k (k + 1) (by rw [List.length_map]; omega) (by rw [List.length_map]; omega) (by omega)
  simpa using this
theorem any_next {l : List Er} {p : Int} {j : Nat} (hj : j < l.length) : ((l.take (j + 1)).any fun x => x.p == p) = (((l.take j).any fun x => x.p == p) || l[j].p == p) := by
  rw [List.take_add_one, List.getElem?_eq_getElem hj, List.any_append]
  simp
def lea5 : List (FuncId × Abs) := [(12, pureAbs g_alive), (26, pureAbs g_rgEqS), (10, pureAbs g_earOk), (25, ownAbs (ocOf g_earRangesD)), (27, ownAbs (ocOf g_earRangesD)), (24, ownAbs (ocOf (g_drawEa 9)))]
theorem lea5_ok : ∀ p ∈ lea5, CallOk Try.prog p.1 p.2 := by
  intro p hp
  simp only [lea5, List.mem_cons, List.not_mem_nil, or_false] at hp
  rcases hp with rfl | rfl | rfl | rfl | rfl | rfl
  · exact alive_ok.call
  · exact sameRanges_ok.call
  · exact implEarOk_ok.call
  · exact implEarRangesD_ok.call
  · exact specEarRangesD_ok.call
  · exact drawEarRanges_ok.call
set_option maxHeartbeats 8000000 in
set_option maxRecDepth 100000 in
theorem lawEarRanges_ok : PureOk Try.prog 7 g_true := by
  refine PureOk.of_vc (G := lea5) lea5_ok mixed Try.func7 (by kernel_rfl) rfl ?_
  intro args cnd r bs hg hc
  unfold g_true at hg
  split at hg
  · rename_i sz rows
    cases hg
    obtain ⟨xs, rfl⟩ := hc
    refine ⟨⟨rfl, by simp, by simp [AV.ids, AV.ids.idsL]⟩, [.l 1 (rowsOfBytes xs)], rfl, fun w vs h => CvL.ok (.cons (.l _ _ _ (rowsOf_w xs)) .nil) h, ?_⟩
    obtain ⟨ys, hys⟩ : ∃ ys, ys = List.take 2000 xs := ⟨_, rfl⟩
    by_cases h20 : (xs.length : Int) > 1048576
    · have e20 : ((xs.length : Int) > 1048576) = True := eq_true h20
      simp (maxSteps := 3000000) only [Try.f7, lea5, e20, g_alive, g_rgEqS, g_earOk, ocOf, g_earRangesD, g_drawEa, bytesOf_rows, rowsOf_len, ersOf_rows, erRows_len, ersOf_nil, bytesOf_nil, ↓reduceIte, Bool.false_eq_true, Bool.not_true, Bool.not_false, tYs, evL, implies_true, oMin, x_min3, oMin3, x_max, oMax, oCopy, oBin, oUn, oLoadKid, oStoreTree, oField, oExtract, oNil, oSliceQ, oSliceE, x_appendZ, oAppendZ, oSliceEnd, endMode, oLoadRow, takeCells, TS.atRow, TS.ex, treeMode, AV.isOwn, TK.isSl, nilTk, nilsB, oLenQ, oLen, nodupB, treeOf, kidAbs, kidRows, TK.isCell, D.toL, oLoad, oStore, oMake, oIndexAddr, ↓reduceIte, reduceCtorEq, Nat.reduceBEq, Nat.reduceAdd, Nat.reduceMul, Nat.reduceLT, Nat.reduceSub, Nat.reduceLeDiff, Nat.reduceEqDiff, Nat.reduceBneDiff, Int.reduceToNat, decide_eq_true_eq, decide_eq_false_iff_not, beq_iff_eq, Int.toNat_natCast, loopK_normal, loopK_exit, loopK_ret, bne_self_eq_false]
      exact ⟨_, [], rfl, ⟨⟨⟨rfl, rfl, rfl⟩, trivial⟩, trivial, by simp [rn, hpAt]⟩⟩
    have e20 : ((xs.length : Int) > 1048576) = False := eq_false h20
    have hmid := (esV_mid ys 0 9 (by omega)).2
    obtain ⟨V, hV⟩ : ∃ V, V = (esV ys 0 9).2 := ⟨_, rfl⟩
    have hV' := hV.symm
    rw [hV'] at hmid
    clear hV
    obtain ⟨m1, m2, m3, m4⟩ := hmid
    obtain ⟨n, room, g, fr⟩ := V
    dsimp only at m1 m2 m3 m4
    rcases hok : eaB ⟨n, room, g, fr⟩ with _ | _
    · have hR0 : rnV ⟨n, room, g, fr⟩ = [] := if_neg (by rw [hok]; decide)
      have hRl : ([] : List Rg).length ≤ 1048577 := by decide
      simp (maxSteps := 3000000) only [Try.f7, lea5, e20, ← hys, hV', rgRows_len, rgsOf_rows, rgEqs_refl, hok, hR0, beq_self_eq_true, Bool.and_true, g_alive, g_rgEqS, g_earOk, ocOf, g_earRangesD, g_drawEa, bytesOf_rows, rowsOf_len, ersOf_rows, erRows_len, ersOf_nil, bytesOf_nil, ↓reduceIte, Bool.false_eq_true, Bool.not_true, Bool.not_false, tYs, evL, implies_true, oMin, x_min3, oMin3, x_max, oMax, oCopy, oBin, oUn, oLoadKid, oStoreTree, oField, oExtract, oNil, oSliceQ, oSliceE, x_appendZ, oAppendZ, oSliceEnd, endMode, oLoadRow, takeCells, TS.atRow, TS.ex, treeMode, AV.isOwn, TK.isSl, nilTk, nilsB, oLenQ, oLen, nodupB, treeOf, kidAbs, kidRows, TK.isCell, D.toL, oLoad, oStore, oMake, oIndexAddr, ↓reduceIte, reduceCtorEq, Nat.reduceBEq, Nat.reduceAdd, Nat.reduceMul, Nat.reduceLT, Nat.reduceSub, Nat.reduceLeDiff, Nat.reduceEqDiff, Nat.reduceBneDiff, Int.reduceToNat, decide_eq_true_eq, decide_eq_false_iff_not, beq_iff_eq, Int.toNat_natCast, loopK_normal, loopK_exit, loopK_ret, bne_self_eq_false]
      repeat' first
        | (refine And.intro ?_ ?_; focus (exact ⟨⟨_, rfl, hRl⟩, _, rfl, hRl⟩))
        | (refine And.intro ?_ ?_; focus (exact ⟨_, rfl, hRl⟩))
        | (refine And.intro ?_ ?_; focus (omega; done))
        | (refine And.intro ?_ ?_; focus (exact ⟨xs, rfl⟩))
        | (refine And.intro ?_ ?_; focus (exact ⟨⟨_, rfl, by omega⟩, _, rfl, by omega⟩))
        | (refine And.intro ?_ ?_; focus (exact ⟨⟨_, rfl, by omega⟩, [], rfl, by simp⟩))
        | (refine And.intro ?_ ?_; focus (exact ⟨⟨[], rfl, by simp⟩, [], rfl, by simp⟩))
        | (refine And.intro ?_ ?_; focus (exact ⟨⟨_, rfl, rfl⟩, ⟨_, rfl, rfl, by omega⟩, rfl, rfl⟩))
        | (refine And.intro ?_ ?_; focus (exact ⟨_, rfl⟩))
        | (refine And.intro ?_ ?_; focus (exact ⟨⟨_, rfl⟩, _, rfl, rfl, by omega⟩))
        | (refine And.intro ?_ ?_; focus (exact ⟨by omega, rowsOf_w _⟩))
        | (refine And.intro ?_ ?_; focus (exact ⟨⟨_, rfl, by omega⟩, ⟨_, rfl, by omega⟩, _, rfl, by omega⟩))
        | (refine And.intro ?_ ?_; focus (exact ⟨⟨⟨_, rfl, by omega⟩, _, rfl, by omega⟩, _, rfl, by omega⟩))
        | (refine And.intro ?_ ?_; focus (exact ⟨⟨_, rfl⟩, _, rfl⟩))
        | (refine And.intro ?_ ?_; focus (exact ⟨by omega, by omega, rowsOf_w _⟩))
        | (refine And.intro ?_ ?_; focus (exact ⟨by simp only [List.length_append, rowsOf_len, erRows_len, List.length_cons, List.length_nil, marks_len, List.length_take, List.length_drop, List.length_set, List.length_map, List.length_range]; omega, by simp only [List.length_append, rowsOf_len, erRows_len, List.length_cons, List.length_nil, marks_len, List.length_take, List.length_drop, List.length_set, List.length_map, List.length_range]; omega, rowsOf_w _⟩))
        | (refine And.intro ?_ ?_; focus (kernel_rfl))
      exact ⟨_, [], rfl, ⟨⟨⟨rfl, rfl, rfl⟩, trivial⟩, trivial, by simp [rn, hpAt]⟩⟩
    · obtain ⟨_, b2, b3, b4, b5⟩ := eaB_iff.1 hok
      dsimp only at b2 b3 b4 b5
      have hRV : rnV ⟨n, room, g, fr⟩ = rnK fr fr.length := if_pos hok
      obtain ⟨q1, q2, q3, q4, q5⟩ := rnK_all b5 (fun x hx => (b4 x hx).1) fr.length (Nat.le_refl _)
      obtain ⟨R, hR⟩ : ∃ R, rnK fr fr.length = R := ⟨_, rfl⟩
      have hcf : ∀ k (hk : k < R.length), n < R[k].f ∧ R[k].f < R[k].t ∧ (∀ p : Int, R[k].f ≤ p → p < R[k].t → (fr.any fun x => x.p == p) = true) := by
        subst hR; exact fun k hk => rnK_f b5 (fun x hx => (b4 x hx).1) hk
      have hcg : ∀ k (hk : k + 1 < R.length), R[k].t < R[k + 1].f := by
        subst hR; exact fun k hk => rnK_gap b5 (fun x hx => (b4 x hx).1) hk
      rw [hR] at q1 q2 q3 q4 q5 hRV
      clear q1 q2 q5 hR
      have hRl : R.length ≤ 1048577 := by omega
      simp (maxSteps := 3000000) only [Try.f7, lea5, e20, ← hys, hV', rgRows_len, rgsOf_rows, rgEqs_refl, hok, hRV, beq_self_eq_true, Bool.and_true, g_alive, g_rgEqS, g_earOk, ocOf, g_earRangesD, g_drawEa, bytesOf_rows, rowsOf_len, ersOf_rows, erRows_len, ersOf_nil, bytesOf_nil, ↓reduceIte, Bool.false_eq_true, Bool.not_true, Bool.not_false, tYs, evL, implies_true, oMin, x_min3, oMin3, x_max, oMax, oCopy, oBin, oUn, oLoadKid, oStoreTree, oField, oExtract, oNil, oSliceQ, oSliceE, x_appendZ, oAppendZ, oSliceEnd, endMode, oLoadRow, takeCells, TS.atRow, TS.ex, treeMode, AV.isOwn, TK.isSl, nilTk, nilsB, oLenQ, oLen, nodupB, treeOf, kidAbs, kidRows, TK.isCell, D.toL, oLoad, oStore, oMake, oIndexAddr, ↓reduceIte, reduceCtorEq, Nat.reduceBEq, Nat.reduceAdd, Nat.reduceMul, Nat.reduceLT, Nat.reduceSub, Nat.reduceLeDiff, Nat.reduceEqDiff, Nat.reduceBneDiff, Int.reduceToNat, decide_eq_true_eq, decide_eq_false_iff_not, beq_iff_eq, Int.toNat_natCast, loopK_normal, loopK_exit, loopK_ret, bne_self_eq_false]
      repeat' first
        | (refine And.intro ?_ ?_; focus (exact ⟨⟨_, rfl, hRl⟩, _, rfl, hRl⟩))
        | (refine And.intro ?_ ?_; focus (exact ⟨_, rfl, hRl⟩))
        | (refine And.intro ?_ ?_; focus (omega; done))
        | (refine And.intro ?_ ?_; focus (exact ⟨xs, rfl⟩))
        | (refine And.intro ?_ ?_; focus (exact ⟨⟨_, rfl, by omega⟩, _, rfl, by omega⟩))
        | (refine And.intro ?_ ?_; focus (exact ⟨⟨_, rfl, by omega⟩, [], rfl, by simp⟩))
        | (refine And.intro ?_ ?_; focus (exact ⟨⟨[], rfl, by simp⟩, [], rfl, by simp⟩))
        | (refine And.intro ?_ ?_; focus (exact ⟨⟨_, rfl, rfl⟩, ⟨_, rfl, rfl, by omega⟩, rfl, rfl⟩))
        | (refine And.intro ?_ ?_; focus (exact ⟨_, rfl⟩))
        | (refine And.intro ?_ ?_; focus (exact ⟨⟨_, rfl⟩, _, rfl, rfl, by omega⟩))
        | (refine And.intro ?_ ?_; focus (exact ⟨by omega, rowsOf_w _⟩))
        | (refine And.intro ?_ ?_; focus (exact ⟨⟨_, rfl, by omega⟩, ⟨_, rfl, by omega⟩, _, rfl, by omega⟩))
        | (refine And.intro ?_ ?_; focus (exact ⟨⟨⟨_, rfl, by omega⟩, _, rfl, by omega⟩, _, rfl, by omega⟩))
        | (refine And.intro ?_ ?_; focus (exact ⟨⟨_, rfl⟩, _, rfl⟩))
        | (refine And.intro ?_ ?_; focus (exact ⟨by omega, by omega, rowsOf_w _⟩))
        | (refine And.intro ?_ ?_; focus (exact ⟨by simp only [List.length_append, rowsOf_len, erRows_len, List.length_cons, List.length_nil, marks_len, List.length_take, List.length_drop, List.length_set, List.length_map, List.length_range]; omega, by simp only [List.length_append, rowsOf_len, erRows_len, List.length_cons, List.length_nil, marks_len, List.length_take, List.length_drop, List.length_set, List.length_map, List.length_range]; omega, rowsOf_w _⟩))
        | (refine And.intro ?_ ?_; focus (kernel_rfl))
      refine e_loop _ _ _ _ _ _ _ _ (fun k : Nat => [.any, .any, .any, .ptr 0 0, .l 2 (rgRows R), .v (.int .i64 (k : Int))] ++ List.replicate (Try.f7.ntmps - 6) .any) (fun k => [(0, .var 25 [.v (.int .i64 n), .v (.int .i64 room), .l 1 (rowsOfBytes g), .l 2 (erRows fr)])]) (fun k => k ≤ R.length) (fun k => R.length - k) 1 (fun k => by simp) ?_ fun k hk' => ?_
      · exact ⟨0, [(0, some _)], Nat.zero_le _, ⟨⟨trivial, trivial, trivial, ⟨rfl, rfl, rfl⟩, ⟨rfl, rfl, rfl⟩, ⟨rfl, rfl, rfl⟩, fitT_rep _ _ rfl⟩, ⟨.inl rfl, rfl, rfl, rfl, trivial⟩, by simp [rn, hpAt]⟩, by simp [keepIds, rn]⟩
      have hk1 : k ≤ R.length := hk'
      have w2 : IntKind.i64.wrap ((k : Int) + 1) = ((k + 1 : Nat) : Int) := by rw [wrap_id] <;> omega
      by_cases hk : k < R.length
      · have hlt : ((k : Int) < (R.length : Int)) = True := eq_true (by omega)
        have h00 : (0 ≤ (k : Int)) = True := eq_true (by omega)
        have hrow := rgRows_get R k hk
        obtain ⟨c1, c2, c3⟩ := hcf k hk
        have hle : (R[k].f ≤ n) = False := eq_false (by omega)
        have hbd : R[k].t ≤ n + 64 := by
          refine Int.not_lt.1 fun hh => ?_
          obtain ⟨x, hx, e⟩ := List.any_eq_true.1 (c3 (R[k].t - 1) (by omega) (by omega))
          have := b4 x hx
          have e := beq_iff_eq.1 e
          have : eaF ⟨n, room, g, fr⟩ ≤ 32 := by unfold eaF; dsimp only; omega
          omega
        obtain ⟨A, hA⟩ : ∃ A, R[k].f = A := ⟨_, rfl⟩
        obtain ⟨B, hB⟩ : ∃ B, R[k].t = B := ⟨_, rfl⟩
        rw [hA, hB] at hrow c2 c3
        rw [hA] at c1 hle
        rw [hB] at hbd
        have inner : True := trivial
        rcases Nat.eq_zero_or_pos k with hk0 | hk0
        · have hgt : ((k : Int) > 0) = False := eq_false (by omega)
          simp (maxSteps := 3000000) only [Try.f7, lea5, e20, ← hys, hV', rgRows_len, rgsOf_rows, rgEqs_refl, hlt, h00, hrow, hle, hgt, D.toI, D.toL, g_alive, g_rgEqS, g_earOk, ocOf, g_earRangesD, g_drawEa, bytesOf_rows, rowsOf_len, ersOf_rows, erRows_len, ersOf_nil, bytesOf_nil, ↓reduceIte, Bool.false_eq_true, Bool.not_true, Bool.not_false, tYs, evL, implies_true, oMin, x_min3, oMin3, x_max, oMax, oCopy, oBin, oUn, oLoadKid, oStoreTree, oField, oExtract, oNil, oSliceQ, oSliceE, x_appendZ, oAppendZ, oSliceEnd, endMode, oLoadRow, takeCells, TS.atRow, TS.ex, treeMode, AV.isOwn, TK.isSl, nilTk, nilsB, oLenQ, oLen, nodupB, treeOf, kidAbs, kidRows, TK.isCell, D.toL, oLoad, oStore, oMake, oIndexAddr, ↓reduceIte, reduceCtorEq, Nat.reduceBEq, Nat.reduceAdd, Nat.reduceMul, Nat.reduceLT, Nat.reduceSub, Nat.reduceLeDiff, Nat.reduceEqDiff, Nat.reduceBneDiff, Int.reduceToNat, decide_eq_true_eq, decide_eq_false_iff_not, beq_iff_eq, Int.toNat_natCast, loopK_normal, loopK_exit, loopK_ret, bne_self_eq_false]
          repeat' first
            | (refine And.intro ?_ ?_; focus (exact ⟨⟨_, rfl, hRl⟩, _, rfl, hRl⟩))
            | (refine And.intro ?_ ?_; focus (exact ⟨_, rfl, hRl⟩))
            | (refine And.intro ?_ ?_; focus (omega; done))
            | (refine And.intro ?_ ?_; focus (exact ⟨xs, rfl⟩))
            | (refine And.intro ?_ ?_; focus (exact ⟨⟨_, rfl, by omega⟩, _, rfl, by omega⟩))
            | (refine And.intro ?_ ?_; focus (exact ⟨⟨_, rfl, by omega⟩, [], rfl, by simp⟩))
            | (refine And.intro ?_ ?_; focus (exact ⟨⟨[], rfl, by simp⟩, [], rfl, by simp⟩))
            | (refine And.intro ?_ ?_; focus (exact ⟨⟨_, rfl, rfl⟩, ⟨_, rfl, rfl, by omega⟩, rfl, rfl⟩))
            | (refine And.intro ?_ ?_; focus (exact ⟨_, rfl⟩))
            | (refine And.intro ?_ ?_; focus (exact ⟨⟨_, rfl⟩, _, rfl, rfl, by omega⟩))
            | (refine And.intro ?_ ?_; focus (exact ⟨by omega, rowsOf_w _⟩))
            | (refine And.intro ?_ ?_; focus (exact ⟨⟨_, rfl, by omega⟩, ⟨_, rfl, by omega⟩, _, rfl, by omega⟩))
            | (refine And.intro ?_ ?_; focus (exact ⟨⟨⟨_, rfl, by omega⟩, _, rfl, by omega⟩, _, rfl, by omega⟩))
            | (refine And.intro ?_ ?_; focus (exact ⟨⟨_, rfl⟩, _, rfl⟩))
            | (refine And.intro ?_ ?_; focus (exact ⟨by omega, by omega, rowsOf_w _⟩))
            | (refine And.intro ?_ ?_; focus (exact ⟨by simp only [List.length_append, rowsOf_len, erRows_len, List.length_cons, List.length_nil, marks_len, List.length_take, List.length_drop, List.length_set, List.length_map, List.length_range]; omega, by simp only [List.length_append, rowsOf_len, erRows_len, List.length_cons, List.length_nil, marks_len, List.length_take, List.length_drop, List.length_set, List.length_map, List.length_range]; omega, rowsOf_w _⟩))
            | (refine And.intro ?_ ?_; focus (kernel_rfl))
          refine e_loop _ _ _ _ _ _ _ _ (fun i : Nat => [.any, .any, .any, .ptr 0 0, .l 2 (rgRows R), .v (.int .i64 (k : Int)), .v (.int .i64 (A + (i : Int)))] ++ List.replicate (Try.f7.ntmps - 7) .any) (fun i => [(0, .var 25 [.v (.int .i64 n), .v (.int .i64 room), .l 1 (rowsOfBytes g), .l 2 (erRows fr)])]) (fun i => A + (i : Int) ≤ B) (fun i => (B - A).toNat - i) 1 (fun i => by simp) ?_ fun i hk' => ?_
          · exact ⟨0, [(0, some 0)], by omega, ⟨⟨trivial, trivial, trivial, ⟨rfl, rfl, rfl⟩, ⟨rfl, rfl, rfl⟩, ⟨rfl, rfl, rfl⟩, ⟨congrArg (fun z => AV.v (Value.int .i64 z)) (by omega), rfl, rfl⟩, fitT_rep _ _ rfl⟩, ⟨.inl rfl, rfl, rfl, rfl, trivial⟩, by simp [rn, hpAt]⟩, by simp [keepIds, rn]⟩
          have hi : A + (i : Int) ≤ B := hk'
          have w4 : IntKind.i64.wrap (A + (i : Int) + 1) = A + ((i + 1 : Nat) : Int) := by rw [wrap_id] <;> omega
          by_cases hiB : A + (i : Int) < B
          · have hlt2 : (A + (i : Int) < B) = True := eq_true hiB
            have hfound := c3 (A + (i : Int)) (by omega) hiB
            simp (maxSteps := 3000000) only [Try.f7, lea5, e20, ← hys, hV', rgRows_len, rgsOf_rows, rgEqs_refl, hlt, h00, hrow, hlt2, D.toI, D.toL, g_alive, g_rgEqS, g_earOk, ocOf, g_earRangesD, g_drawEa, bytesOf_rows, rowsOf_len, ersOf_rows, erRows_len, ersOf_nil, bytesOf_nil, ↓reduceIte, Bool.false_eq_true, Bool.not_true, Bool.not_false, tYs, evL, implies_true, oMin, x_min3, oMin3, x_max, oMax, oCopy, oBin, oUn, oLoadKid, oStoreTree, oField, oExtract, oNil, oSliceQ, oSliceE, x_appendZ, oAppendZ, oSliceEnd, endMode, oLoadRow, takeCells, TS.atRow, TS.ex, treeMode, AV.isOwn, TK.isSl, nilTk, nilsB, oLenQ, oLen, nodupB, treeOf, kidAbs, kidRows, TK.isCell, D.toL, oLoad, oStore, oMake, oIndexAddr, ↓reduceIte, reduceCtorEq, Nat.reduceBEq, Nat.reduceAdd, Nat.reduceMul, Nat.reduceLT, Nat.reduceSub, Nat.reduceLeDiff, Nat.reduceEqDiff, Nat.reduceBneDiff, Int.reduceToNat, decide_eq_true_eq, decide_eq_false_iff_not, beq_iff_eq, Int.toNat_natCast, loopK_normal, loopK_exit, loopK_ret, bne_self_eq_false]
            repeat' first
              | (refine And.intro ?_ ?_; focus (exact ⟨⟨_, rfl, hRl⟩, _, rfl, hRl⟩))
              | (refine And.intro ?_ ?_; focus (exact ⟨_, rfl, hRl⟩))
              | (refine And.intro ?_ ?_; focus (omega; done))
              | (refine And.intro ?_ ?_; focus (exact ⟨xs, rfl⟩))
              | (refine And.intro ?_ ?_; focus (exact ⟨⟨_, rfl, by omega⟩, _, rfl, by omega⟩))
              | (refine And.intro ?_ ?_; focus (exact ⟨⟨_, rfl, by omega⟩, [], rfl, by simp⟩))
              | (refine And.intro ?_ ?_; focus (exact ⟨⟨[], rfl, by simp⟩, [], rfl, by simp⟩))
              | (refine And.intro ?_ ?_; focus (exact ⟨⟨_, rfl, rfl⟩, ⟨_, rfl, rfl, by omega⟩, rfl, rfl⟩))
              | (refine And.intro ?_ ?_; focus (exact ⟨_, rfl⟩))
              | (refine And.intro ?_ ?_; focus (exact ⟨⟨_, rfl⟩, _, rfl, rfl, by omega⟩))
              | (refine And.intro ?_ ?_; focus (exact ⟨by omega, rowsOf_w _⟩))
              | (refine And.intro ?_ ?_; focus (exact ⟨⟨_, rfl, by omega⟩, ⟨_, rfl, by omega⟩, _, rfl, by omega⟩))
              | (refine And.intro ?_ ?_; focus (exact ⟨⟨⟨_, rfl, by omega⟩, _, rfl, by omega⟩, _, rfl, by omega⟩))
              | (refine And.intro ?_ ?_; focus (exact ⟨⟨_, rfl⟩, _, rfl⟩))
              | (refine And.intro ?_ ?_; focus (exact ⟨by omega, by omega, rowsOf_w _⟩))
              | (refine And.intro ?_ ?_; focus (exact ⟨by simp only [List.length_append, rowsOf_len, erRows_len, List.length_cons, List.length_nil, marks_len, List.length_take, List.length_drop, List.length_set, List.length_map, List.length_range]; omega, by simp only [List.length_append, rowsOf_len, erRows_len, List.length_cons, List.length_nil, marks_len, List.length_take, List.length_drop, List.length_set, List.length_map, List.length_range]; omega, rowsOf_w _⟩))
              | (refine And.intro ?_ ?_; focus (kernel_rfl))
            have hp0 : A + (i : Int) = A + (i : Int) := rfl
            generalize hpp : A + (i : Int) = p at *
            refine e_loop _ _ _ _ _ _ _ _ (fun j : Nat => [.any, .any, .any, .ptr 0 0, .l 2 (rgRows R), .v (.int .i64 (k : Int)), .v (.int .i64 p), .v (.bool ((fr.take j).any fun x => x.p == p)), .v (.int .i64 (j : Int))] ++ List.replicate (Try.f7.ntmps - 9) .any) (fun j => [(0, .var 25 [.v (.int .i64 n), .v (.int .i64 room), .l 1 (rowsOfBytes g), .l 2 (erRows fr)])]) (fun j => j ≤ fr.length) (fun j => fr.length - j) 1 (fun j => by simp) ?_ fun j hk' => ?_
            · exact ⟨0, [(0, some 0)], Nat.zero_le _, ⟨⟨trivial, trivial, trivial, ⟨rfl, rfl, rfl⟩, ⟨rfl, rfl, rfl⟩, ⟨rfl, rfl, rfl⟩, ⟨rfl, rfl, rfl⟩, ⟨rfl, rfl, rfl⟩, ⟨rfl, rfl, rfl⟩, fitT_rep _ _ rfl⟩, ⟨.inl rfl, rfl, rfl, rfl, trivial⟩, by simp [rn, hpAt]⟩, by simp [keepIds, rn]⟩
            have hj : j ≤ fr.length := hk'
            have w5 : IntKind.i64.wrap ((j : Int) + 1) = ((j + 1 : Nat) : Int) := by rw [wrap_id] <;> omega
            by_cases hjl : j < fr.length
            · have hlt3 : ((j : Int) < (fr.length : Int)) = True := eq_true (by omega)
              have h03 : (0 ≤ (j : Int)) = True := eq_true (by omega)
              have hrow3 := erRows_get fr j hjl
              have hnx := any_next (p := p) hjl
              obtain ⟨f0, hf0⟩ : ∃ f0, ((fr.take j).any fun x => x.p == p) = f0 := ⟨_, rfl⟩
              obtain ⟨f1, hf1⟩ : ∃ f1, (fr[j].p == p) = f1 := ⟨_, rfl⟩
              rw [hf0, hf1] at hnx
              rw [hf0]
              rcases f0 with _ | _
              · simp (maxSteps := 3000000) only [Try.f7, lea5, e20, ← hys, hV', rgRows_len, rgsOf_rows, rgEqs_refl, hlt3, h03, hrow3, hf1, w5, D.toI, D.toL, g_alive, g_rgEqS, g_earOk, ocOf, g_earRangesD, g_drawEa, bytesOf_rows, rowsOf_len, ersOf_rows, erRows_len, ersOf_nil, bytesOf_nil, ↓reduceIte, Bool.false_eq_true, Bool.not_true, Bool.not_false, tYs, evL, implies_true, oMin, x_min3, oMin3, x_max, oMax, oCopy, oBin, oUn, oLoadKid, oStoreTree, oField, oExtract, oNil, oSliceQ, oSliceE, x_appendZ, oAppendZ, oSliceEnd, endMode, oLoadRow, takeCells, TS.atRow, TS.ex, treeMode, AV.isOwn, TK.isSl, nilTk, nilsB, oLenQ, oLen, nodupB, treeOf, kidAbs, kidRows, TK.isCell, D.toL, oLoad, oStore, oMake, oIndexAddr, ↓reduceIte, reduceCtorEq, Nat.reduceBEq, Nat.reduceAdd, Nat.reduceMul, Nat.reduceLT, Nat.reduceSub, Nat.reduceLeDiff, Nat.reduceEqDiff, Nat.reduceBneDiff, Int.reduceToNat, decide_eq_true_eq, decide_eq_false_iff_not, beq_iff_eq, Int.toNat_natCast, loopK_normal, loopK_exit, loopK_ret, bne_self_eq_false]
                repeat' first
                  | (refine And.intro ?_ ?_; focus (exact ⟨⟨_, rfl, hRl⟩, _, rfl, hRl⟩))
                  | (refine And.intro ?_ ?_; focus (exact ⟨_, rfl, hRl⟩))
                  | (refine And.intro ?_ ?_; focus (omega; done))
                  | (refine And.intro ?_ ?_; focus (exact ⟨xs, rfl⟩))
                  | (refine And.intro ?_ ?_; focus (exact ⟨⟨_, rfl, by omega⟩, _, rfl, by omega⟩))
                  | (refine And.intro ?_ ?_; focus (exact ⟨⟨_, rfl, by omega⟩, [], rfl, by simp⟩))
                  | (refine And.intro ?_ ?_; focus (exact ⟨⟨[], rfl, by simp⟩, [], rfl, by simp⟩))
                  | (refine And.intro ?_ ?_; focus (exact ⟨⟨_, rfl, rfl⟩, ⟨_, rfl, rfl, by omega⟩, rfl, rfl⟩))
                  | (refine And.intro ?_ ?_; focus (exact ⟨_, rfl⟩))
                  | (refine And.intro ?_ ?_; focus (exact ⟨⟨_, rfl⟩, _, rfl, rfl, by omega⟩))
                  | (refine And.intro ?_ ?_; focus (exact ⟨by omega, rowsOf_w _⟩))
                  | (refine And.intro ?_ ?_; focus (exact ⟨⟨_, rfl, by omega⟩, ⟨_, rfl, by omega⟩, _, rfl, by omega⟩))
                  | (refine And.intro ?_ ?_; focus (exact ⟨⟨⟨_, rfl, by omega⟩, _, rfl, by omega⟩, _, rfl, by omega⟩))
                  | (refine And.intro ?_ ?_; focus (exact ⟨⟨_, rfl⟩, _, rfl⟩))
                  | (refine And.intro ?_ ?_; focus (exact ⟨by omega, by omega, rowsOf_w _⟩))
                  | (refine And.intro ?_ ?_; focus (exact ⟨by simp only [List.length_append, rowsOf_len, erRows_len, List.length_cons, List.length_nil, marks_len, List.length_take, List.length_drop, List.length_set, List.length_map, List.length_range]; omega, by simp only [List.length_append, rowsOf_len, erRows_len, List.length_cons, List.length_nil, marks_len, List.length_take, List.length_drop, List.length_set, List.length_map, List.length_range]; omega, rowsOf_w _⟩))
                  | (refine And.intro ?_ ?_; focus (kernel_rfl))
                exact ⟨j + 1, [(0, some 0)], by omega, by omega, ⟨⟨trivial, trivial, trivial, ⟨rfl, rfl, rfl⟩, ⟨rfl, rfl, rfl⟩, ⟨rfl, rfl, rfl⟩, ⟨rfl, rfl, rfl⟩, ⟨congrArg (fun z : Bool => AV.v (Value.bool z)) (by rw [hnx]; rfl), rfl, rfl⟩, ⟨rfl, rfl, rfl⟩, fitT_rep _ _ rfl⟩, ⟨.inl rfl, rfl, rfl, rfl, trivial⟩, by simp [rn, hpAt]⟩, by simp [keepIds, rn]⟩
              · simp (maxSteps := 3000000) only [Try.f7, lea5, e20, ← hys, hV', rgRows_len, rgsOf_rows, rgEqs_refl, hlt3, h03, hrow3, hf1, w5, D.toI, D.toL, g_alive, g_rgEqS, g_earOk, ocOf, g_earRangesD, g_drawEa, bytesOf_rows, rowsOf_len, ersOf_rows, erRows_len, ersOf_nil, bytesOf_nil, ↓reduceIte, Bool.false_eq_true, Bool.not_true, Bool.not_false, tYs, evL, implies_true, oMin, x_min3, oMin3, x_max, oMax, oCopy, oBin, oUn, oLoadKid, oStoreTree, oField, oExtract, oNil, oSliceQ, oSliceE, x_appendZ, oAppendZ, oSliceEnd, endMode, oLoadRow, takeCells, TS.atRow, TS.ex, treeMode, AV.isOwn, TK.isSl, nilTk, nilsB, oLenQ, oLen, nodupB, treeOf, kidAbs, kidRows, TK.isCell, D.toL, oLoad, oStore, oMake, oIndexAddr, ↓reduceIte, reduceCtorEq, Nat.reduceBEq, Nat.reduceAdd, Nat.reduceMul, Nat.reduceLT, Nat.reduceSub, Nat.reduceLeDiff, Nat.reduceEqDiff, Nat.reduceBneDiff, Int.reduceToNat, decide_eq_true_eq, decide_eq_false_iff_not, beq_iff_eq, Int.toNat_natCast, loopK_normal, loopK_exit, loopK_ret, bne_self_eq_false]
                repeat' first
                  | (refine And.intro ?_ ?_; focus (exact ⟨⟨_, rfl, hRl⟩, _, rfl, hRl⟩))
                  | (refine And.intro ?_ ?_; focus (exact ⟨_, rfl, hRl⟩))
                  | (refine And.intro ?_ ?_; focus (omega; done))
                  | (refine And.intro ?_ ?_; focus (exact ⟨xs, rfl⟩))
                  | (refine And.intro ?_ ?_; focus (exact ⟨⟨_, rfl, by omega⟩, _, rfl, by omega⟩))
                  | (refine And.intro ?_ ?_; focus (exact ⟨⟨_, rfl, by omega⟩, [], rfl, by simp⟩))
                  | (refine And.intro ?_ ?_; focus (exact ⟨⟨[], rfl, by simp⟩, [], rfl, by simp⟩))
                  | (refine And.intro ?_ ?_; focus (exact ⟨⟨_, rfl, rfl⟩, ⟨_, rfl, rfl, by omega⟩, rfl, rfl⟩))
                  | (refine And.intro ?_ ?_; focus (exact ⟨_, rfl⟩))
                  | (refine And.intro ?_ ?_; focus (exact ⟨⟨_, rfl⟩, _, rfl, rfl, by omega⟩))
                  | (refine And.intro ?_ ?_; focus (exact ⟨by omega, rowsOf_w _⟩))
                  | (refine And.intro ?_ ?_; focus (exact ⟨⟨_, rfl, by omega⟩, ⟨_, rfl, by omega⟩, _, rfl, by omega⟩))
                  | (refine And.intro ?_ ?_; focus (exact ⟨⟨⟨_, rfl, by omega⟩, _, rfl, by omega⟩, _, rfl, by omega⟩))
                  | (refine And.intro ?_ ?_; focus (exact ⟨⟨_, rfl⟩, _, rfl⟩))
                  | (refine And.intro ?_ ?_; focus (exact ⟨by omega, by omega, rowsOf_w _⟩))
                  | (refine And.intro ?_ ?_; focus (exact ⟨by simp only [List.length_append, rowsOf_len, erRows_len, List.length_cons, List.length_nil, marks_len, List.length_take, List.length_drop, List.length_set, List.length_map, List.length_range]; omega, by simp only [List.length_append, rowsOf_len, erRows_len, List.length_cons, List.length_nil, marks_len, List.length_take, List.length_drop, List.length_set, List.length_map, List.length_range]; omega, rowsOf_w _⟩))
                  | (refine And.intro ?_ ?_; focus (kernel_rfl))
                exact ⟨j + 1, [(0, some 0)], by omega, by omega, ⟨⟨trivial, trivial, trivial, ⟨rfl, rfl, rfl⟩, ⟨rfl, rfl, rfl⟩, ⟨rfl, rfl, rfl⟩, ⟨rfl, rfl, rfl⟩, ⟨congrArg (fun z : Bool => AV.v (Value.bool z)) (by rw [hnx]; rfl), rfl, rfl⟩, ⟨rfl, rfl, rfl⟩, fitT_rep _ _ rfl⟩, ⟨.inl rfl, rfl, rfl, rfl, trivial⟩, by simp [rn, hpAt]⟩, by simp [keepIds, rn]⟩
            obtain rfl : j = fr.length := by omega
            have hlt3 : ((fr.length : Int) < (fr.length : Int)) = False := eq_false (by omega)
            rw [List.take_length, hfound]
            simp (maxSteps := 3000000) only [Try.f7, lea5, e20, ← hys, hV', rgRows_len, rgsOf_rows, rgEqs_refl, hlt3, w5, w4, g_alive, g_rgEqS, g_earOk, ocOf, g_earRangesD, g_drawEa, bytesOf_rows, rowsOf_len, ersOf_rows, erRows_len, ersOf_nil, bytesOf_nil, ↓reduceIte, Bool.false_eq_true, Bool.not_true, Bool.not_false, tYs, evL, implies_true, oMin, x_min3, oMin3, x_max, oMax, oCopy, oBin, oUn, oLoadKid, oStoreTree, oField, oExtract, oNil, oSliceQ, oSliceE, x_appendZ, oAppendZ, oSliceEnd, endMode, oLoadRow, takeCells, TS.atRow, TS.ex, treeMode, AV.isOwn, TK.isSl, nilTk, nilsB, oLenQ, oLen, nodupB, treeOf, kidAbs, kidRows, TK.isCell, D.toL, oLoad, oStore, oMake, oIndexAddr, ↓reduceIte, reduceCtorEq, Nat.reduceBEq, Nat.reduceAdd, Nat.reduceMul, Nat.reduceLT, Nat.reduceSub, Nat.reduceLeDiff, Nat.reduceEqDiff, Nat.reduceBneDiff, Int.reduceToNat, decide_eq_true_eq, decide_eq_false_iff_not, beq_iff_eq, Int.toNat_natCast, loopK_normal, loopK_exit, loopK_ret, bne_self_eq_false]
            repeat' first
              | (refine And.intro ?_ ?_; focus (exact ⟨⟨_, rfl, hRl⟩, _, rfl, hRl⟩))
              | (refine And.intro ?_ ?_; focus (exact ⟨_, rfl, hRl⟩))
              | (refine And.intro ?_ ?_; focus (omega; done))
              | (refine And.intro ?_ ?_; focus (exact ⟨xs, rfl⟩))
              | (refine And.intro ?_ ?_; focus (exact ⟨⟨_, rfl, by omega⟩, _, rfl, by omega⟩))
              | (refine And.intro ?_ ?_; focus (exact ⟨⟨_, rfl, by omega⟩, [], rfl, by simp⟩))
              | (refine And.intro ?_ ?_; focus (exact ⟨⟨[], rfl, by simp⟩, [], rfl, by simp⟩))
              | (refine And.intro ?_ ?_; focus (exact ⟨⟨_, rfl, rfl⟩, ⟨_, rfl, rfl, by omega⟩, rfl, rfl⟩))
              | (refine And.intro ?_ ?_; focus (exact ⟨_, rfl⟩))
              | (refine And.intro ?_ ?_; focus (exact ⟨⟨_, rfl⟩, _, rfl, rfl, by omega⟩))
              | (refine And.intro ?_ ?_; focus (exact ⟨by omega, rowsOf_w _⟩))
              | (refine And.intro ?_ ?_; focus (exact ⟨⟨_, rfl, by omega⟩, ⟨_, rfl, by omega⟩, _, rfl, by omega⟩))
              | (refine And.intro ?_ ?_; focus (exact ⟨⟨⟨_, rfl, by omega⟩, _, rfl, by omega⟩, _, rfl, by omega⟩))
              | (refine And.intro ?_ ?_; focus (exact ⟨⟨_, rfl⟩, _, rfl⟩))
              | (refine And.intro ?_ ?_; focus (exact ⟨by omega, by omega, rowsOf_w _⟩))
              | (refine And.intro ?_ ?_; focus (exact ⟨by simp only [List.length_append, rowsOf_len, erRows_len, List.length_cons, List.length_nil, marks_len, List.length_take, List.length_drop, List.length_set, List.length_map, List.length_range]; omega, by simp only [List.length_append, rowsOf_len, erRows_len, List.length_cons, List.length_nil, marks_len, List.length_take, List.length_drop, List.length_set, List.length_map, List.length_range]; omega, rowsOf_w _⟩))
              | (refine And.intro ?_ ?_; focus (kernel_rfl))
            exact ⟨i + 1, [(0, some 0)], by omega, by omega, ⟨⟨trivial, trivial, trivial, ⟨rfl, rfl, rfl⟩, ⟨rfl, rfl, rfl⟩, ⟨rfl, rfl, rfl⟩, ⟨rfl, rfl, rfl⟩, fitT_rep _ _ rfl⟩, ⟨.inl rfl, rfl, rfl, rfl, trivial⟩, by simp [rn, hpAt]⟩, by simp [keepIds, rn]⟩
          · have hlt2 : (A + (i : Int) < B) = False := eq_false hiB
            simp (maxSteps := 3000000) only [Try.f7, lea5, e20, ← hys, hV', rgRows_len, rgsOf_rows, rgEqs_refl, hlt, h00, hrow, hlt2, w2, D.toI, D.toL, g_alive, g_rgEqS, g_earOk, ocOf, g_earRangesD, g_drawEa, bytesOf_rows, rowsOf_len, ersOf_rows, erRows_len, ersOf_nil, bytesOf_nil, ↓reduceIte, Bool.false_eq_true, Bool.not_true, Bool.not_false, tYs, evL, implies_true, oMin, x_min3, oMin3, x_max, oMax, oCopy, oBin, oUn, oLoadKid, oStoreTree, oField, oExtract, oNil, oSliceQ, oSliceE, x_appendZ, oAppendZ, oSliceEnd, endMode, oLoadRow, takeCells, TS.atRow, TS.ex, treeMode, AV.isOwn, TK.isSl, nilTk, nilsB, oLenQ, oLen, nodupB, treeOf, kidAbs, kidRows, TK.isCell, D.toL, oLoad, oStore, oMake, oIndexAddr, ↓reduceIte, reduceCtorEq, Nat.reduceBEq, Nat.reduceAdd, Nat.reduceMul, Nat.reduceLT, Nat.reduceSub, Nat.reduceLeDiff, Nat.reduceEqDiff, Nat.reduceBneDiff, Int.reduceToNat, decide_eq_true_eq, decide_eq_false_iff_not, beq_iff_eq, Int.toNat_natCast, loopK_normal, loopK_exit, loopK_ret, bne_self_eq_false]
            repeat' first
              | (refine And.intro ?_ ?_; focus (exact ⟨⟨_, rfl, hRl⟩, _, rfl, hRl⟩))
              | (refine And.intro ?_ ?_; focus (exact ⟨_, rfl, hRl⟩))
              | (refine And.intro ?_ ?_; focus (omega; done))
              | (refine And.intro ?_ ?_; focus (exact ⟨xs, rfl⟩))
              | (refine And.intro ?_ ?_; focus (exact ⟨⟨_, rfl, by omega⟩, _, rfl, by omega⟩))
              | (refine And.intro ?_ ?_; focus (exact ⟨⟨_, rfl, by omega⟩, [], rfl, by simp⟩))
              | (refine And.intro ?_ ?_; focus (exact ⟨⟨[], rfl, by simp⟩, [], rfl, by simp⟩))
              | (refine And.intro ?_ ?_; focus (exact ⟨⟨_, rfl, rfl⟩, ⟨_, rfl, rfl, by omega⟩, rfl, rfl⟩))
              | (refine And.intro ?_ ?_; focus (exact ⟨_, rfl⟩))
              | (refine And.intro ?_ ?_; focus (exact ⟨⟨_, rfl⟩, _, rfl, rfl, by omega⟩))
              | (refine And.intro ?_ ?_; focus (exact ⟨by omega, rowsOf_w _⟩))
              | (refine And.intro ?_ ?_; focus (exact ⟨⟨_, rfl, by omega⟩, ⟨_, rfl, by omega⟩, _, rfl, by omega⟩))
              | (refine And.intro ?_ ?_; focus (exact ⟨⟨⟨_, rfl, by omega⟩, _, rfl, by omega⟩, _, rfl, by omega⟩))
              | (refine And.intro ?_ ?_; focus (exact ⟨⟨_, rfl⟩, _, rfl⟩))
              | (refine And.intro ?_ ?_; focus (exact ⟨by omega, by omega, rowsOf_w _⟩))
              | (refine And.intro ?_ ?_; focus (exact ⟨by simp only [List.length_append, rowsOf_len, erRows_len, List.length_cons, List.length_nil, marks_len, List.length_take, List.length_drop, List.length_set, List.length_map, List.length_range]; omega, by simp only [List.length_append, rowsOf_len, erRows_len, List.length_cons, List.length_nil, marks_len, List.length_take, List.length_drop, List.length_set, List.length_map, List.length_range]; omega, rowsOf_w _⟩))
              | (refine And.intro ?_ ?_; focus (kernel_rfl))
            exact ⟨k + 1, [(0, some 0)], by omega, by omega, ⟨⟨trivial, trivial, trivial, ⟨rfl, rfl, rfl⟩, ⟨rfl, rfl, rfl⟩, ⟨rfl, rfl, rfl⟩, fitT_rep _ _ rfl⟩, ⟨.inl rfl, rfl, rfl, rfl, trivial⟩, by simp [rn, hpAt]⟩, by simp [keepIds, rn]⟩
        · have hgt : ((k : Int) > 0) = True := eq_true (by omega)
          have w3 : IntKind.i64.wrap ((k : Int) - 1) = ((k - 1 : Nat) : Int) := by rw [wrap_id] <;> omega
          have h01 : (0 ≤ ((k - 1 : Nat) : Int)) = True := eq_true (by omega)
          have hlt1 : (((k - 1 : Nat) : Int) < (R.length : Int)) = True := eq_true (by omega)
          have hrow1 := rgRows_get R (k - 1) (by omega)
          have hg := hcg (k - 1) (by omega)
          have hge : (R[k - 1].t ≥ A) = False := eq_false (by
            have e1 : k - 1 + 1 = k := by omega
            simp only [e1, hA] at hg
            omega)
          simp (maxSteps := 3000000) only [Try.f7, lea5, e20, ← hys, hV', rgRows_len, rgsOf_rows, rgEqs_refl, hlt, h00, hrow, hle, hgt, w3, h01, hlt1, hrow1, hge, D.toI, D.toL, g_alive, g_rgEqS, g_earOk, ocOf, g_earRangesD, g_drawEa, bytesOf_rows, rowsOf_len, ersOf_rows, erRows_len, ersOf_nil, bytesOf_nil, ↓reduceIte, Bool.false_eq_true, Bool.not_true, Bool.not_false, tYs, evL, implies_true, oMin, x_min3, oMin3, x_max, oMax, oCopy, oBin, oUn, oLoadKid, oStoreTree, oField, oExtract, oNil, oSliceQ, oSliceE, x_appendZ, oAppendZ, oSliceEnd, endMode, oLoadRow, takeCells, TS.atRow, TS.ex, treeMode, AV.isOwn, TK.isSl, nilTk, nilsB, oLenQ, oLen, nodupB, treeOf, kidAbs, kidRows, TK.isCell, D.toL, oLoad, oStore, oMake, oIndexAddr, ↓reduceIte, reduceCtorEq, Nat.reduceBEq, Nat.reduceAdd, Nat.reduceMul, Nat.reduceLT, Nat.reduceSub, Nat.reduceLeDiff, Nat.reduceEqDiff, Nat.reduceBneDiff, Int.reduceToNat, decide_eq_true_eq, decide_eq_false_iff_not, beq_iff_eq, Int.toNat_natCast, loopK_normal, loopK_exit, loopK_ret, bne_self_eq_false]
          repeat' first
            | (refine And.intro ?_ ?_; focus (exact ⟨⟨_, rfl, hRl⟩, _, rfl, hRl⟩))
            | (refine And.intro ?_ ?_; focus (exact ⟨_, rfl, hRl⟩))
            | (refine And.intro ?_ ?_; focus (omega; done))
            | (refine And.intro ?_ ?_; focus (exact ⟨xs, rfl⟩))
            | (refine And.intro ?_ ?_; focus (exact ⟨⟨_, rfl, by omega⟩, _, rfl, by omega⟩))
            | (refine And.intro ?_ ?_; focus (exact ⟨⟨_, rfl, by omega⟩, [], rfl, by simp⟩))
            | (refine And.intro ?_ ?_; focus (exact ⟨⟨[], rfl, by simp⟩, [], rfl, by simp⟩))
            | (refine And.intro ?_ ?_; focus (exact ⟨⟨_, rfl, rfl⟩, ⟨_, rfl, rfl, by omega⟩, rfl, rfl⟩))
            | (refine And.intro ?_ ?_; focus (exact ⟨_, rfl⟩))
            | (refine And.intro ?_ ?_; focus (exact ⟨⟨_, rfl⟩, _, rfl, rfl, by omega⟩))
            | (refine And.intro ?_ ?_; focus (exact ⟨by omega, rowsOf_w _⟩))
            | (refine And.intro ?_ ?_; focus (exact ⟨⟨_, rfl, by omega⟩, ⟨_, rfl, by omega⟩, _, rfl, by omega⟩))
            | (refine And.intro ?_ ?_; focus (exact ⟨⟨⟨_, rfl, by omega⟩, _, rfl, by omega⟩, _, rfl, by omega⟩))
            | (refine And.intro ?_ ?_; focus (exact ⟨⟨_, rfl⟩, _, rfl⟩))
            | (refine And.intro ?_ ?_; focus (exact ⟨by omega, by omega, rowsOf_w _⟩))
            | (refine And.intro ?_ ?_; focus (exact ⟨by simp only [List.length_append, rowsOf_len, erRows_len, List.length_cons, List.length_nil, marks_len, List.length_take, List.length_drop, List.length_set, List.length_map, List.length_range]; omega, by simp only [List.length_append, rowsOf_len, erRows_len, List.length_cons, List.length_nil, marks_len, List.length_take, List.length_drop, List.length_set, List.length_map, List.length_range]; omega, rowsOf_w _⟩))
            | (refine And.intro ?_ ?_; focus (kernel_rfl))
          refine e_loop _ _ _ _ _ _ _ _ (fun i : Nat => [.any, .any, .any, .ptr 0 0, .l 2 (rgRows R), .v (.int .i64 (k : Int)), .v (.int .i64 (A + (i : Int)))] ++ List.replicate (Try.f7.ntmps - 7) .any) (fun i => [(0, .var 25 [.v (.int .i64 n), .v (.int .i64 room), .l 1 (rowsOfBytes g), .l 2 (erRows fr)])]) (fun i => A + (i : Int) ≤ B) (fun i => (B - A).toNat - i) 1 (fun i => by simp) ?_ fun i hk' => ?_
          · exact ⟨0, [(0, some 0)], by omega, ⟨⟨trivial, trivial, trivial, ⟨rfl, rfl, rfl⟩, ⟨rfl, rfl, rfl⟩, ⟨rfl, rfl, rfl⟩, ⟨congrArg (fun z => AV.v (Value.int .i64 z)) (by omega), rfl, rfl⟩, fitT_rep _ _ rfl⟩, ⟨.inl rfl, rfl, rfl, rfl, trivial⟩, by simp [rn, hpAt]⟩, by simp [keepIds, rn]⟩
          have hi : A + (i : Int) ≤ B := hk'
          have w4 : IntKind.i64.wrap (A + (i : Int) + 1) = A + ((i + 1 : Nat) : Int) := by rw [wrap_id] <;> omega
          by_cases hiB : A + (i : Int) < B
          · have hlt2 : (A + (i : Int) < B) = True := eq_true hiB
            have hfound := c3 (A + (i : Int)) (by omega) hiB
            simp (maxSteps := 3000000) only [Try.f7, lea5, e20, ← hys, hV', rgRows_len, rgsOf_rows, rgEqs_refl, hlt, h00, hrow, hlt2, D.toI, D.toL, g_alive, g_rgEqS, g_earOk, ocOf, g_earRangesD, g_drawEa, bytesOf_rows, rowsOf_len, ersOf_rows, erRows_len, ersOf_nil, bytesOf_nil, ↓reduceIte, Bool.false_eq_true, Bool.not_true, Bool.not_false, tYs, evL, implies_true, oMin, x_min3, oMin3, x_max, oMax, oCopy, oBin, oUn, oLoadKid, oStoreTree, oField, oExtract, oNil, oSliceQ, oSliceE, x_appendZ, oAppendZ, oSliceEnd, endMode, oLoadRow, takeCells, TS.atRow, TS.ex, treeMode, AV.isOwn, TK.isSl, nilTk, nilsB, oLenQ, oLen, nodupB, treeOf, kidAbs, kidRows, TK.isCell, D.toL, oLoad, oStore, oMake, oIndexAddr, ↓reduceIte, reduceCtorEq, Nat.reduceBEq, Nat.reduceAdd, Nat.reduceMul, Nat.reduceLT, Nat.reduceSub, Nat.reduceLeDiff, Nat.reduceEqDiff, Nat.reduceBneDiff, Int.reduceToNat, decide_eq_true_eq, decide_eq_false_iff_not, beq_iff_eq, Int.toNat_natCast, loopK_normal, loopK_exit, loopK_ret, bne_self_eq_false]
            repeat' first
              | (refine And.intro ?_ ?_; focus (exact ⟨⟨_, rfl, hRl⟩, _, rfl, hRl⟩))
              | (refine And.intro ?_ ?_; focus (exact ⟨_, rfl, hRl⟩))
              | (refine And.intro ?_ ?_; focus (omega; done))
              | (refine And.intro ?_ ?_; focus (exact ⟨xs, rfl⟩))
              | (refine And.intro ?_ ?_; focus (exact ⟨⟨_, rfl, by omega⟩, _, rfl, by omega⟩))
              | (refine And.intro ?_ ?_; focus (exact ⟨⟨_, rfl, by omega⟩, [], rfl, by simp⟩))
              | (refine And.intro ?_ ?_; focus (exact ⟨⟨[], rfl, by simp⟩, [], rfl, by simp⟩))
              | (refine And.intro ?_ ?_; focus (exact ⟨⟨_, rfl, rfl⟩, ⟨_, rfl, rfl, by omega⟩, rfl, rfl⟩))
              | (refine And.intro ?_ ?_; focus (exact ⟨_, rfl⟩))
              | (refine And.intro ?_ ?_; focus (exact ⟨⟨_, rfl⟩, _, rfl, rfl, by omega⟩))
              | (refine And.intro ?_ ?_; focus (exact ⟨by omega, rowsOf_w _⟩))
              | (refine And.intro ?_ ?_; focus (exact ⟨⟨_, rfl, by omega⟩, ⟨_, rfl, by omega⟩, _, rfl, by omega⟩))
              | (refine And.intro ?_ ?_; focus (exact ⟨⟨⟨_, rfl, by omega⟩, _, rfl, by omega⟩, _, rfl, by omega⟩))
              | (refine And.intro ?_ ?_; focus (exact ⟨⟨_, rfl⟩, _, rfl⟩))
              | (refine And.intro ?_ ?_; focus (exact ⟨by omega, by omega, rowsOf_w _⟩))
              | (refine And.intro ?_ ?_; focus (exact ⟨by simp only [List.length_append, rowsOf_len, erRows_len, List.length_cons, List.length_nil, marks_len, List.length_take, List.length_drop, List.length_set, List.length_map, List.length_range]; omega, by simp only [List.length_append, rowsOf_len, erRows_len, List.length_cons, List.length_nil, marks_len, List.length_take, List.length_drop, List.length_set, List.length_map, List.length_range]; omega, rowsOf_w _⟩))
              | (refine And.intro ?_ ?_; focus (kernel_rfl))
            have hp0 : A + (i : Int) = A + (i : Int) := rfl
            generalize hpp : A + (i : Int) = p at *
            refine e_loop _ _ _ _ _ _ _ _ (fun j : Nat => [.any, .any, .any, .ptr 0 0, .l 2 (rgRows R), .v (.int .i64 (k : Int)), .v (.int .i64 p), .v (.bool ((fr.take j).any fun x => x.p == p)), .v (.int .i64 (j : Int))] ++ List.replicate (Try.f7.ntmps - 9) .any) (fun j => [(0, .var 25 [.v (.int .i64 n), .v (.int .i64 room), .l 1 (rowsOfBytes g), .l 2 (erRows fr)])]) (fun j => j ≤ fr.length) (fun j => fr.length - j) 1 (fun j => by simp) ?_ fun j hk' => ?_
            · exact ⟨0, [(0, some 0)], Nat.zero_le _, ⟨⟨trivial, trivial, trivial, ⟨rfl, rfl, rfl⟩, ⟨rfl, rfl, rfl⟩, ⟨rfl, rfl, rfl⟩, ⟨rfl, rfl, rfl⟩, ⟨rfl, rfl, rfl⟩, ⟨rfl, rfl, rfl⟩, fitT_rep _ _ rfl⟩, ⟨.inl rfl, rfl, rfl, rfl, trivial⟩, by simp [rn, hpAt]⟩, by simp [keepIds, rn]⟩
            have hj : j ≤ fr.length := hk'
            have w5 : IntKind.i64.wrap ((j : Int) + 1) = ((j + 1 : Nat) : Int) := by rw [wrap_id] <;> omega
            by_cases hjl : j < fr.length
            · have hlt3 : ((j : Int) < (fr.length : Int)) = True := eq_true (by omega)
              have h03 : (0 ≤ (j : Int)) = True := eq_true (by omega)
              have hrow3 := erRows_get fr j hjl
              have hnx := any_next (p := p) hjl
              obtain ⟨f0, hf0⟩ : ∃ f0, ((fr.take j).any fun x => x.p == p) = f0 := ⟨_, rfl⟩
              obtain ⟨f1, hf1⟩ : ∃ f1, (fr[j].p == p) = f1 := ⟨_, rfl⟩
              rw [hf0, hf1] at hnx
              rw [hf0]
              rcases f0 with _ | _
              · simp (maxSteps := 3000000) only [Try.f7, lea5, e20, ← hys, hV', rgRows_len, rgsOf_rows, rgEqs_refl, hlt3, h03, hrow3, hf1, w5, D.toI, D.toL, g_alive, g_rgEqS, g_earOk, ocOf, g_earRangesD, g_drawEa, bytesOf_rows, rowsOf_len, ersOf_rows, erRows_len, ersOf_nil, bytesOf_nil, ↓reduceIte, Bool.false_eq_true, Bool.not_true, Bool.not_false, tYs, evL, implies_true, oMin, x_min3, oMin3, x_max, oMax, oCopy, oBin, oUn, oLoadKid, oStoreTree, oField, oExtract, oNil, oSliceQ, oSliceE, x_appendZ, oAppendZ, oSliceEnd, endMode, oLoadRow, takeCells, TS.atRow, TS.ex, treeMode, AV.isOwn, TK.isSl, nilTk, nilsB, oLenQ, oLen, nodupB, treeOf, kidAbs, kidRows, TK.isCell, D.toL, oLoad, oStore, oMake, oIndexAddr, ↓reduceIte, reduceCtorEq, Nat.reduceBEq, Nat.reduceAdd, Nat.reduceMul, Nat.reduceLT, Nat.reduceSub, Nat.reduceLeDiff, Nat.reduceEqDiff, Nat.reduceBneDiff, Int.reduceToNat, decide_eq_true_eq, decide_eq_false_iff_not, beq_iff_eq, Int.toNat_natCast, loopK_normal, loopK_exit, loopK_ret, bne_self_eq_false]
                repeat' first
                  | (refine And.intro ?_ ?_; focus (exact ⟨⟨_, rfl, hRl⟩, _, rfl, hRl⟩))
                  | (refine And.intro ?_ ?_; focus (exact ⟨_, rfl, hRl⟩))
                  | (refine And.intro ?_ ?_; focus (omega; done))
                  | (refine And.intro ?_ ?_; focus (exact ⟨xs, rfl⟩))
                  | (refine And.intro ?_ ?_; focus (exact ⟨⟨_, rfl, by omega⟩, _, rfl, by omega⟩))
                  | (refine And.intro ?_ ?_; focus (exact ⟨⟨_, rfl, by omega⟩, [], rfl, by simp⟩))
                  | (refine And.intro ?_ ?_; focus (exact ⟨⟨[], rfl, by simp⟩, [], rfl, by simp⟩))
                  | (refine And.intro ?_ ?_; focus (exact ⟨⟨_, rfl, rfl⟩, ⟨_, rfl, rfl, by omega⟩, rfl, rfl⟩))
                  | (refine And.intro ?_ ?_; focus (exact ⟨_, rfl⟩))
                  | (refine And.intro ?_ ?_; focus (exact ⟨⟨_, rfl⟩, _, rfl, rfl, by omega⟩))
                  | (refine And.intro ?_ ?_; focus (exact ⟨by omega, rowsOf_w _⟩))
                  | (refine And.intro ?_ ?_; focus (exact ⟨⟨_, rfl, by omega⟩, ⟨_, rfl, by omega⟩, _, rfl, by omega⟩))
                  | (refine And.intro ?_ ?_; focus (exact ⟨⟨⟨_, rfl, by omega⟩, _, rfl, by omega⟩, _, rfl, by omega⟩))
                  | (refine And.intro ?_ ?_; focus (exact ⟨⟨_, rfl⟩, _, rfl⟩))
                  | (refine And.intro ?_ ?_; focus (exact ⟨by omega, by omega, rowsOf_w _⟩))
                  | (refine And.intro ?_ ?_; focus (exact ⟨by simp only [List.length_append, rowsOf_len, erRows_len, List.length_cons, List.length_nil, marks_len, List.length_take, List.length_drop, List.length_set, List.length_map, List.length_range]; omega, by simp only [List.length_append, rowsOf_len, erRows_len, List.length_cons, List.length_nil, marks_len, List.length_take, List.length_drop, List.length_set, List.length_map, List.length_range]; omega, rowsOf_w _⟩))
                  | (refine And.intro ?_ ?_; focus (kernel_rfl))
                exact ⟨j + 1, [(0, some 0)], by omega, by omega, ⟨⟨trivial, trivial, trivial, ⟨rfl, rfl, rfl⟩, ⟨rfl, rfl, rfl⟩, ⟨rfl, rfl, rfl⟩, ⟨rfl, rfl, rfl⟩, ⟨congrArg (fun z : Bool => AV.v (Value.bool z)) (by rw [hnx]; rfl), rfl, rfl⟩, ⟨rfl, rfl, rfl⟩, fitT_rep _ _ rfl⟩, ⟨.inl rfl, rfl, rfl, rfl, trivial⟩, by simp [rn, hpAt]⟩, by simp [keepIds, rn]⟩
              · simp (maxSteps := 3000000) only [Try.f7, lea5, e20, ← hys, hV', rgRows_len, rgsOf_rows, rgEqs_refl, hlt3, h03, hrow3, hf1, w5, D.toI, D.toL, g_alive, g_rgEqS, g_earOk, ocOf, g_earRangesD, g_drawEa, bytesOf_rows, rowsOf_len, ersOf_rows, erRows_len, ersOf_nil, bytesOf_nil, ↓reduceIte, Bool.false_eq_true, Bool.not_true, Bool.not_false, tYs, evL, implies_true, oMin, x_min3, oMin3, x_max, oMax, oCopy, oBin, oUn, oLoadKid, oStoreTree, oField, oExtract, oNil, oSliceQ, oSliceE, x_appendZ, oAppendZ, oSliceEnd, endMode, oLoadRow, takeCells, TS.atRow, TS.ex, treeMode, AV.isOwn, TK.isSl, nilTk, nilsB, oLenQ, oLen, nodupB, treeOf, kidAbs, kidRows, TK.isCell, D.toL, oLoad, oStore, oMake, oIndexAddr, ↓reduceIte, reduceCtorEq, Nat.reduceBEq, Nat.reduceAdd, Nat.reduceMul, Nat.reduceLT, Nat.reduceSub, Nat.reduceLeDiff, Nat.reduceEqDiff, Nat.reduceBneDiff, Int.reduceToNat, decide_eq_true_eq, decide_eq_false_iff_not, beq_iff_eq, Int.toNat_natCast, loopK_normal, loopK_exit, loopK_ret, bne_self_eq_false]
                repeat' first
                  | (refine And.intro ?_ ?_; focus (exact ⟨⟨_, rfl, hRl⟩, _, rfl, hRl⟩))
                  | (refine And.intro ?_ ?_; focus (exact ⟨_, rfl, hRl⟩))
                  | (refine And.intro ?_ ?_; focus (omega; done))
                  | (refine And.intro ?_ ?_; focus (exact ⟨xs, rfl⟩))
                  | (refine And.intro ?_ ?_; focus (exact ⟨⟨_, rfl, by omega⟩, _, rfl, by omega⟩))
                  | (refine And.intro ?_ ?_; focus (exact ⟨⟨_, rfl, by omega⟩, [], rfl, by simp⟩))
                  | (refine And.intro ?_ ?_; focus (exact ⟨⟨[], rfl, by simp⟩, [], rfl, by simp⟩))
                  | (refine And.intro ?_ ?_; focus (exact ⟨⟨_, rfl, rfl⟩, ⟨_, rfl, rfl, by omega⟩, rfl, rfl⟩))
                  | (refine And.intro ?_ ?_; focus (exact ⟨_, rfl⟩))
                  | (refine And.intro ?_ ?_; focus (exact ⟨⟨_, rfl⟩, _, rfl, rfl, by omega⟩))
                  | (refine And.intro ?_ ?_; focus (exact ⟨by omega, rowsOf_w _⟩))
                  | (refine And.intro ?_ ?_; focus (exact ⟨⟨_, rfl, by omega⟩, ⟨_, rfl, by omega⟩, _, rfl, by omega⟩))
                  | (refine And.intro ?_ ?_; focus (exact ⟨⟨⟨_, rfl, by omega⟩, _, rfl, by omega⟩, _, rfl, by omega⟩))
                  | (refine And.intro ?_ ?_; focus (exact ⟨⟨_, rfl⟩, _, rfl⟩))
                  | (refine And.intro ?_ ?_; focus (exact ⟨by omega, by omega, rowsOf_w _⟩))
                  | (refine And.intro ?_ ?_; focus (exact ⟨by simp only [List.length_append, rowsOf_len, erRows_len, List.length_cons, List.length_nil, marks_len, List.length_take, List.length_drop, List.length_set, List.length_map, List.length_range]; omega, by simp only [List.length_append, rowsOf_len, erRows_len, List.length_cons, List.length_nil, marks_len, List.length_take, List.length_drop, List.length_set, List.length_map, List.length_range]; omega, rowsOf_w _⟩))
                  | (refine And.intro ?_ ?_; focus (kernel_rfl))
                exact ⟨j + 1, [(0, some 0)], by omega, by omega, ⟨⟨trivial, trivial, trivial, ⟨rfl, rfl, rfl⟩, ⟨rfl, rfl, rfl⟩, ⟨rfl, rfl, rfl⟩, ⟨rfl, rfl, rfl⟩, ⟨congrArg (fun z : Bool => AV.v (Value.bool z)) (by rw [hnx]; rfl), rfl, rfl⟩, ⟨rfl, rfl, rfl⟩, fitT_rep _ _ rfl⟩, ⟨.inl rfl, rfl, rfl, rfl, trivial⟩, by simp [rn, hpAt]⟩, by simp [keepIds, rn]⟩
            obtain rfl : j = fr.length := by omega
            have hlt3 : ((fr.length : Int) < (fr.length : Int)) = False := eq_false (by omega)
            rw [List.take_length, hfound]
            simp (maxSteps := 3000000) only [Try.f7, lea5, e20, ← hys, hV', rgRows_len, rgsOf_rows, rgEqs_refl, hlt3, w5, w4, g_alive, g_rgEqS, g_earOk, ocOf, g_earRangesD, g_drawEa, bytesOf_rows, rowsOf_len, ersOf_rows, erRows_len, ersOf_nil, bytesOf_nil, ↓reduceIte, Bool.false_eq_true, Bool.not_true, Bool.not_false, tYs, evL, implies_true, oMin, x_min3, oMin3, x_max, oMax, oCopy, oBin, oUn, oLoadKid, oStoreTree, oField, oExtract, oNil, oSliceQ, oSliceE, x_appendZ, oAppendZ, oSliceEnd, endMode, oLoadRow, takeCells, TS.atRow, TS.ex, treeMode, AV.isOwn, TK.isSl, nilTk, nilsB, oLenQ, oLen, nodupB, treeOf, kidAbs, kidRows, TK.isCell, D.toL, oLoad, oStore, oMake, oIndexAddr, ↓reduceIte, reduceCtorEq, Nat.reduceBEq, Nat.reduceAdd, Nat.reduceMul, Nat.reduceLT, Nat.reduceSub, Nat.reduceLeDiff, Nat.reduceEqDiff, Nat.reduceBneDiff, Int.reduceToNat, decide_eq_true_eq, decide_eq_false_iff_not, beq_iff_eq, Int.toNat_natCast, loopK_normal, loopK_exit, loopK_ret, bne_self_eq_false]
            repeat' first
              | (refine And.intro ?_ ?_; focus (exact ⟨⟨_, rfl, hRl⟩, _, rfl, hRl⟩))
              | (refine And.intro ?_ ?_; focus (exact ⟨_, rfl, hRl⟩))
              | (refine And.intro ?_ ?_; focus (omega; done))
              | (refine And.intro ?_ ?_; focus (exact ⟨xs, rfl⟩))
              | (refine And.intro ?_ ?_; focus (exact ⟨⟨_, rfl, by omega⟩, _, rfl, by omega⟩))
              | (refine And.intro ?_ ?_; focus (exact ⟨⟨_, rfl, by omega⟩, [], rfl, by simp⟩))
              | (refine And.intro ?_ ?_; focus (exact ⟨⟨[], rfl, by simp⟩, [], rfl, by simp⟩))
              | (refine And.intro ?_ ?_; focus (exact ⟨⟨_, rfl, rfl⟩, ⟨_, rfl, rfl, by omega⟩, rfl, rfl⟩))
              | (refine And.intro ?_ ?_; focus (exact ⟨_, rfl⟩))
              | (refine And.intro ?_ ?_; focus (exact ⟨⟨_, rfl⟩, _, rfl, rfl, by omega⟩))
              | (refine And.intro ?_ ?_; focus (exact ⟨by omega, rowsOf_w _⟩))
              | (refine And.intro ?_ ?_; focus (exact ⟨⟨_, rfl, by omega⟩, ⟨_, rfl, by omega⟩, _, rfl, by omega⟩))
              | (refine And.intro ?_ ?_; focus (exact ⟨⟨⟨_, rfl, by omega⟩, _, rfl, by omega⟩, _, rfl, by omega⟩))
              | (refine And.intro ?_ ?_; focus (exact ⟨⟨_, rfl⟩, _, rfl⟩))
              | (refine And.intro ?_ ?_; focus (exact ⟨by omega, by omega, rowsOf_w _⟩))
              | (refine And.intro ?_ ?_; focus (exact ⟨by simp only [List.length_append, rowsOf_len, erRows_len, List.length_cons, List.length_nil, marks_len, List.length_take, List.length_drop, List.length_set, List.length_map, List.length_range]; omega, by simp only [List.length_append, rowsOf_len, erRows_len, List.length_cons, List.length_nil, marks_len, List.length_take, List.length_drop, List.length_set, List.length_map, List.length_range]; omega, rowsOf_w _⟩))
              | (refine And.intro ?_ ?_; focus (kernel_rfl))
            exact ⟨i + 1, [(0, some 0)], by omega, by omega, ⟨⟨trivial, trivial, trivial, ⟨rfl, rfl, rfl⟩, ⟨rfl, rfl, rfl⟩, ⟨rfl, rfl, rfl⟩, ⟨rfl, rfl, rfl⟩, fitT_rep _ _ rfl⟩, ⟨.inl rfl, rfl, rfl, rfl, trivial⟩, by simp [rn, hpAt]⟩, by simp [keepIds, rn]⟩
          · have hlt2 : (A + (i : Int) < B) = False := eq_false hiB
            simp (maxSteps := 3000000) only [Try.f7, lea5, e20, ← hys, hV', rgRows_len, rgsOf_rows, rgEqs_refl, hlt, h00, hrow, hlt2, w2, D.toI, D.toL, g_alive, g_rgEqS, g_earOk, ocOf, g_earRangesD, g_drawEa, bytesOf_rows, rowsOf_len, ersOf_rows, erRows_len, ersOf_nil, bytesOf_nil, ↓reduceIte, Bool.false_eq_true, Bool.not_true, Bool.not_false, tYs, evL, implies_true, oMin, x_min3, oMin3, x_max, oMax, oCopy, oBin, oUn, oLoadKid, oStoreTree, oField, oExtract, oNil, oSliceQ, oSliceE, x_appendZ, oAppendZ, oSliceEnd, endMode, oLoadRow, takeCells, TS.atRow, TS.ex, treeMode, AV.isOwn, TK.isSl, nilTk, nilsB, oLenQ, oLen, nodupB, treeOf, kidAbs, kidRows, TK.isCell, D.toL, oLoad, oStore, oMake, oIndexAddr, ↓reduceIte, reduceCtorEq, Nat.reduceBEq, Nat.reduceAdd, Nat.reduceMul, Nat.reduceLT, Nat.reduceSub, Nat.reduceLeDiff, Nat.reduceEqDiff, Nat.reduceBneDiff, Int.reduceToNat, decide_eq_true_eq, decide_eq_false_iff_not, beq_iff_eq, Int.toNat_natCast, loopK_normal, loopK_exit, loopK_ret, bne_self_eq_false]
            repeat' first
              | (refine And.intro ?_ ?_; focus (exact ⟨⟨_, rfl, hRl⟩, _, rfl, hRl⟩))
              | (refine And.intro ?_ ?_; focus (exact ⟨_, rfl, hRl⟩))
              | (refine And.intro ?_ ?_; focus (omega; done))
              | (refine And.intro ?_ ?_; focus (exact ⟨xs, rfl⟩))
              | (refine And.intro ?_ ?_; focus (exact ⟨⟨_, rfl, by omega⟩, _, rfl, by omega⟩))
              | (refine And.intro ?_ ?_; focus (exact ⟨⟨_, rfl, by omega⟩, [], rfl, by simp⟩))
              | (refine And.intro ?_ ?_; focus (exact ⟨⟨[], rfl, by simp⟩, [], rfl, by simp⟩))
              | (refine And.intro ?_ ?_; focus (exact ⟨⟨_, rfl, rfl⟩, ⟨_, rfl, rfl, by omega⟩, rfl, rfl⟩))
              | (refine And.intro ?_ ?_; focus (exact ⟨_, rfl⟩))
              | (refine And.intro ?_ ?_; focus (exact ⟨⟨_, rfl⟩, _, rfl, rfl, by omega⟩))
              | (refine And.intro ?_ ?_; focus (exact ⟨by omega, rowsOf_w _⟩))
              | (refine And.intro ?_ ?_; focus (exact ⟨⟨_, rfl, by omega⟩, ⟨_, rfl, by omega⟩, _, rfl, by omega⟩))
              | (refine And.intro ?_ ?_; focus (exact ⟨⟨⟨_, rfl, by omega⟩, _, rfl, by omega⟩, _, rfl, by omega⟩))
              | (refine And.intro ?_ ?_; focus (exact ⟨⟨_, rfl⟩, _, rfl⟩))
              | (refine And.intro ?_ ?_; focus (exact ⟨by omega, by omega, rowsOf_w _⟩))
              | (refine And.intro ?_ ?_; focus (exact ⟨by simp only [List.length_append, rowsOf_len, erRows_len, List.length_cons, List.length_nil, marks_len, List.length_take, List.length_drop, List.length_set, List.length_map, List.length_range]; omega, by simp only [List.length_append, rowsOf_len, erRows_len, List.length_cons, List.length_nil, marks_len, List.length_take, List.length_drop, List.length_set, List.length_map, List.length_range]; omega, rowsOf_w _⟩))
              | (refine And.intro ?_ ?_; focus (kernel_rfl))
            exact ⟨k + 1, [(0, some 0)], by omega, by omega, ⟨⟨trivial, trivial, trivial, ⟨rfl, rfl, rfl⟩, ⟨rfl, rfl, rfl⟩, ⟨rfl, rfl, rfl⟩, fitT_rep _ _ rfl⟩, ⟨.inl rfl, rfl, rfl, rfl, trivial⟩, by simp [rn, hpAt]⟩, by simp [keepIds, rn]⟩
      · obtain rfl : k = R.length := by omega
        have hlt : ((R.length : Int) < (R.length : Int)) = False := eq_false (by omega)
        have g1 : ((R.length : Int) ≤ 2) = True := eq_true (by omega)
        have g2 : (decide ((R.length : Int) > 0) == decide ((fr.length : Int) > 0)) = true := by
          have e1 : R.length = 0 ↔ fr.length = 0 := by
            constructor
            · intro h; exact q4.1 (List.eq_nil_of_length_eq_zero h)
            · intro h; rw [q4.2 h]; rfl
          rw [beq_iff_eq]
          exact decide_eq_decide.2 ⟨fun h => by omega, fun h => by omega⟩
        simp (maxSteps := 3000000) only [Try.f7, lea5, e20, ← hys, hV', rgRows_len, rgsOf_rows, rgEqs_refl, hlt, w2, g1, g2, beq_self_eq_true, Bool.and_true, decide_true, g_alive, g_rgEqS, g_earOk, ocOf, g_earRangesD, g_drawEa, bytesOf_rows, rowsOf_len, ersOf_rows, erRows_len, ersOf_nil, bytesOf_nil, ↓reduceIte, Bool.false_eq_true, Bool.not_true, Bool.not_false, tYs, evL, implies_true, oMin, x_min3, oMin3, x_max, oMax, oCopy, oBin, oUn, oLoadKid, oStoreTree, oField, oExtract, oNil, oSliceQ, oSliceE, x_appendZ, oAppendZ, oSliceEnd, endMode, oLoadRow, takeCells, TS.atRow, TS.ex, treeMode, AV.isOwn, TK.isSl, nilTk, nilsB, oLenQ, oLen, nodupB, treeOf, kidAbs, kidRows, TK.isCell, D.toL, oLoad, oStore, oMake, oIndexAddr, ↓reduceIte, reduceCtorEq, Nat.reduceBEq, Nat.reduceAdd, Nat.reduceMul, Nat.reduceLT, Nat.reduceSub, Nat.reduceLeDiff, Nat.reduceEqDiff, Nat.reduceBneDiff, Int.reduceToNat, decide_eq_true_eq, decide_eq_false_iff_not, beq_iff_eq, Int.toNat_natCast, loopK_normal, loopK_exit, loopK_ret, bne_self_eq_false]
        repeat' first
          | (refine And.intro ?_ ?_; focus (exact ⟨⟨_, rfl, hRl⟩, _, rfl, hRl⟩))
          | (refine And.intro ?_ ?_; focus (exact ⟨_, rfl, hRl⟩))
          | (refine And.intro ?_ ?_; focus (omega; done))
          | (refine And.intro ?_ ?_; focus (exact ⟨xs, rfl⟩))
          | (refine And.intro ?_ ?_; focus (exact ⟨⟨_, rfl, by omega⟩, _, rfl, by omega⟩))
          | (refine And.intro ?_ ?_; focus (exact ⟨⟨_, rfl, by omega⟩, [], rfl, by simp⟩))
          | (refine And.intro ?_ ?_; focus (exact ⟨⟨[], rfl, by simp⟩, [], rfl, by simp⟩))
          | (refine And.intro ?_ ?_; focus (exact ⟨⟨_, rfl, rfl⟩, ⟨_, rfl, rfl, by omega⟩, rfl, rfl⟩))
          | (refine And.intro ?_ ?_; focus (exact ⟨_, rfl⟩))
          | (refine And.intro ?_ ?_; focus (exact ⟨⟨_, rfl⟩, _, rfl, rfl, by omega⟩))
          | (refine And.intro ?_ ?_; focus (exact ⟨by omega, rowsOf_w _⟩))
          | (refine And.intro ?_ ?_; focus (exact ⟨⟨_, rfl, by omega⟩, ⟨_, rfl, by omega⟩, _, rfl, by omega⟩))
          | (refine And.intro ?_ ?_; focus (exact ⟨⟨⟨_, rfl, by omega⟩, _, rfl, by omega⟩, _, rfl, by omega⟩))
          | (refine And.intro ?_ ?_; focus (exact ⟨⟨_, rfl⟩, _, rfl⟩))
          | (refine And.intro ?_ ?_; focus (exact ⟨by omega, by omega, rowsOf_w _⟩))
          | (refine And.intro ?_ ?_; focus (exact ⟨by simp only [List.length_append, rowsOf_len, erRows_len, List.length_cons, List.length_nil, marks_len, List.length_take, List.length_drop, List.length_set, List.length_map, List.length_range]; omega, by simp only [List.length_append, rowsOf_len, erRows_len, List.length_cons, List.length_nil, marks_len, List.length_take, List.length_drop, List.length_set, List.length_map, List.length_range]; omega, rowsOf_w _⟩))
          | (refine And.intro ?_ ?_; focus (kernel_rfl))
        exact ⟨_, [], rfl, ⟨⟨⟨rfl, rfl, rfl⟩, trivial⟩, trivial, by simp [rn, hpAt]⟩⟩
  · cases hg
theorem walk_EarRanges (A : Option Addr) (n c : Nat) (xs : List UInt8) (w : World) (h : Rd w w.heap.size A n (bv xs)) (hc : n ≤ c) :
    Calls Try.prog 7 #[.slice A n c] w fun e w' => e = .returned (.bool true) ∧ Below w.heap.size w w' :=
  lawEarRanges_ok.walk (vs := [_]) (arel_cons (.l _ _ _ (rep_of_rd h hc)) arel_nil) rfl ⟨xs, rfl⟩
end Go.Proofs.Ytikcpbgnmdhilaa
