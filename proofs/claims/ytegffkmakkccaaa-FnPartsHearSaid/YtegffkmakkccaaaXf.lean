import Derived.Test.YtegffkmakkccaaaXe
namespace Go.Proofs.Ytegffkmakkccaaa
open Go.RowKit
set_option linter.unusedSimpArgs false
set_option linter.unusedVariables false
theorem same4_self (x : Pk) : same4 x x = true := by simp [same4]
theorem same4_iff {x y : Pk} : same4 x y = true ↔ x.f = y.f ∧ x.t = y.t ∧ x.p = y.p ∧ x.i = y.i := by simp [same4]
theorem same_first {ps : List Pk} {k : Nat} (h : oksK ps k = true) (hk : k ≤ ps.length) : ∀ j (hj : j < k), same4 (ps[j]'(by omega)) (ps[0]'(by omega)) = true
  | 0, _ => same4_self _
  | j + 1, hj => by
    have ih := same_first h hk j (by omega)
    have hs := oksK_at h hj
    rw [step_succ (by omega), Bool.and_eq_true, follows, Bool.and_eq_true, Bool.and_eq_true] at hs
    have h1 := hs.2.1.1
    rw [same4_iff] at h1 ih ⊢
    omega
set_option maxRecDepth 100000 in
theorem l5Same_ok : PureOk Try.prog 56 g_ofOne := by
  refine PureOk.of_vc (G := []) (by simp) mixed Try.func56 (by kernel_rfl) rfl ?_
  intro args cnd r bs hg hc
  unfold g_ofOne at hg
  split at hg
  · rename_i f t p h i a m u sz rows f' t' p' h' i' a' m' u' sz' rows'
    cases hg
    refine ⟨⟨rfl, by simp, by simp [AV.ids, AV.ids.idsL]⟩, _, rfl, fun w vs h => h, ?_⟩
    simp (maxSteps := 3000000) only [Try.f56, tYs, evL, implies_true, oMin, oCopy, oBin, oUn, oLoadKid, oStoreTree, oField, oExtract, oNil, oSliceQ, oLoadRow, takeCells, TS.atRow, TS.ex, treeMode, AV.isOwn, TK.isSl, nilTk, nilsB, oLenQ, oLen, nodupB, treeOf, kidAbs, kidRows, TK.isCell, D.toL, oLoad, oStore, oMake, oIndexAddr, ↓reduceIte, reduceCtorEq, Nat.reduceBEq, Nat.reduceAdd, Nat.reduceMul, Nat.reduceLT, Nat.reduceSub, Nat.reduceLeDiff, Nat.reduceEqDiff, Nat.reduceBneDiff, Int.reduceToNat, decide_eq_true_eq, decide_eq_false_iff_not, beq_iff_eq, Int.toNat_natCast]
    repeat' split
    all_goals (refine ⟨_, [], rfl, ⟨⟨⟨?_, rfl, rfl⟩, trivial⟩, by simp [hpAt, fitH], by simp [hpAt]⟩⟩; refine congrArg (fun b => AV.v (Value.bool b)) ?_; first | rfl | (rw [Bool.eq_iff_iff]; simp only [same4, decide_eq_true_eq, inZ, Bool.and_eq_true, Bool.or_eq_true, bne_iff_ne, Bool.false_eq_true, beq_eq_false_iff_ne, beq_iff_eq, ne_eq, decide_eq_false_iff_not, Bool.not_eq_eq_eq_not, Bool.not_true, Bool.not_false, false_iff, iff_false, true_iff, iff_true] at *; omega))
  · cases hg
def spo : List (FuncId × Abs) := [(64, pureAbs g_packetOk), (56, pureAbs g_ofOne), (65, pureAbs g_l1In)]
theorem spo_ok : ∀ p ∈ spo, CallOk Try.prog p.1 p.2 := by
  intro p hp
  simp only [spo, List.mem_cons, List.not_mem_nil, or_false] at hp
  rcases hp with rfl | rfl | rfl
  · exact specPacketOk_ok.call
  · exact l5Same_ok.call
  · exact l1In_ok.call
set_option maxRecDepth 100000 in
theorem specPartOk_ok : PureOk Try.prog 55 g_partOk := by
  refine PureOk.of_vc (G := spo) spo_ok mixed Try.func55 (by kernel_rfl) rfl ?_
  intro args cnd r bs hg hc
  unfold g_partOk at hg
  split at hg
  · rename_i sz rows u
    cases hg
    obtain ⟨ps, rfl, hn, hd⟩ := hc
    rw [psOf_rows]
    refine ⟨⟨rfl, by simp, by simp [AV.ids, AV.ids.idsL]⟩, [.agg [.l 9 (pRows ps), .v (.int .i64 u)]], rfl, fun w vs h => CvL.ok (.cons (.cons (.l _ _ _ (pRows_w ps)) (.cons (.refl _) .nil)) .nil) h, ?_⟩
    simp (maxSteps := 3000000) only [Try.f55, spo, pRows_len, tYs, evL, implies_true, oMin, oCopy, oBin, oUn, oLoadKid, oStoreTree, oField, oExtract, oNil, oSliceQ, oLoadRow, takeCells, TS.atRow, TS.ex, treeMode, AV.isOwn, TK.isSl, nilTk, nilsB, oLenQ, oLen, nodupB, treeOf, kidAbs, kidRows, TK.isCell, D.toL, oLoad, oStore, oMake, oIndexAddr, ↓reduceIte, reduceCtorEq, Nat.reduceBEq, Nat.reduceAdd, Nat.reduceMul, Nat.reduceLT, Nat.reduceSub, Nat.reduceLeDiff, Nat.reduceEqDiff, Nat.reduceBneDiff, Int.reduceToNat, decide_eq_true_eq, decide_eq_false_iff_not, beq_iff_eq, Int.toNat_natCast]
    have no : piecesB ps = false → partB ps u = false := fun e => by rw [partB, e]; rfl
    refine e_loop _ _ _ _ _ _ _ _ (fun k : Nat => [.any, .ptr 0 0, .any, .v (.int .i64 ((sumN (ps.take k) : Nat) : Int)), .v (.int .i64 (k : Int))] ++ List.replicate (Try.f55.ntmps - 5) .any) (fun k => [(0, .var 38 [.l 9 (pRows ps), .v (.int .i64 u)])]) (fun k => k ≤ ps.length ∧ oksK ps k = true ∧ sumN (ps.take k) ≤ 48 * k) (fun k => ps.length - k) 1 (fun k => by simp) ?_ fun k hk' => ?_
    · exact ⟨0, [(0, some 0)], ⟨Nat.zero_le _, rfl, by simp [sumN]⟩, ⟨⟨trivial, ⟨rfl, rfl, rfl⟩, trivial, ⟨rfl, rfl, rfl⟩, ⟨rfl, rfl, rfl⟩, fitT_rep _ _ rfl⟩, ⟨.inl rfl, rfl, rfl, rfl, trivial⟩, by simp [rn, hpAt]⟩, by simp [keepIds]⟩
    obtain ⟨hk1, hk2, hk3⟩ := hk'
    have w2 : IntKind.i64.wrap ((k : Int) + 1) = ((k + 1 : Nat) : Int) := by rw [wrap_id] <;> omega
    by_cases h : k < ps.length
    · have hrow := pRows_get ps k h
      have hlt : ((k : Int) < (ps.length : Int)) = True := eq_true (by omega)
      have h0 : (0 ≤ (k : Int)) = True := eq_true (by omega)
      have hx := hd ps[k] (List.getElem_mem h)
      have hp0 : 0 < ps.length := by omega
      have hr0 := pRows_get ps 0 hp0
      have hlt0 : ((0 : Int) < (ps.length : Int)) = True := eq_true (by omega)
      have hst := sumN_take h
      have ws : IntKind.i64.wrap (((sumN (ps.take k) : Nat) : Int) + (ps[k].d.length : Int)) = ((sumN (ps.take (k + 1)) : Nat) : Int) := by rw [hst, wrap_id] <;> omega
      generalize sumN (ps.take k) = M at hk3 ws hst
      cases k with
      | zero =>
        have hz : ((((0 : Nat) : Int) > 0)) = False := eq_false (by omega)
        simp (maxSteps := 3000000) only [Try.f55, spo, pRows_len, rowsOf_len, bytesOf_rows, g_packetOk, g_ofOne, hrow, hlt, h0, hr0, hlt0, hz, ws, pkB_ok, pk_eta, same4_self, Int.le_refl, D.toI, dB, D.toB, D.toL, pRow, tYs, evL, implies_true, oMin, oCopy, oBin, oUn, oLoadKid, oStoreTree, oField, oExtract, oNil, oSliceQ, oLoadRow, takeCells, TS.atRow, TS.ex, treeMode, AV.isOwn, TK.isSl, nilTk, nilsB, oLenQ, oLen, nodupB, treeOf, kidAbs, kidRows, TK.isCell, D.toL, oLoad, oStore, oMake, oIndexAddr, ↓reduceIte, reduceCtorEq, Nat.reduceBEq, Nat.reduceAdd, Nat.reduceMul, Nat.reduceLT, Nat.reduceSub, Nat.reduceLeDiff, Nat.reduceEqDiff, Nat.reduceBneDiff, Int.reduceToNat, decide_eq_true_eq, decide_eq_false_iff_not, beq_iff_eq, Int.toNat_natCast, loopK_normal, loopK_exit, loopK_ret, w2]
        by_cases ok : ps[0].ok = true
        · have hs : oksK ps (0 + 1) = true := by rw [oksK_succ, hk2, step_zero h, ok]; rfl
          have hl := (ok_rng ok).2
          have hst : sumN (ps.take 1) = M + ps[0].d.length := hst
          rw [if_pos (by simp [ok])]
          exact ⟨by kernel_rfl, 1, [(0, some 0)], ⟨by omega, hs, by omega⟩, by omega, ⟨⟨trivial, ⟨rfl, rfl, rfl⟩, trivial, ⟨rfl, rfl, rfl⟩, ⟨rfl, rfl, rfl⟩, fitT_rep _ _ rfl⟩, ⟨.inl rfl, rfl, rfl, rfl, trivial⟩, by simp [rn, hpAt]⟩, by simp [keepIds]⟩
        · rw [no (piecesB_no h (by rw [step_zero h]; exact Bool.eq_false_iff.2 ok)), if_neg (by simp [ok])]
          exact ⟨by kernel_rfl, _, [], rfl, ⟨⟨⟨rfl, rfl, rfl⟩, trivial⟩, trivial, by simp [rn, hpAt]⟩⟩
      | succ j =>
        have wp : IntKind.i64.wrap (((j + 1 : Nat) : Int) - 1) = (j : Int) := by rw [wrap_id] <;> omega
        have hj : j < ps.length := by omega
        have hrj := pRows_get ps j hj
        have hjlt : ((j : Int) < (ps.length : Int)) = True := eq_true (by omega)
        have h0j : (0 ≤ (j : Int)) = True := eq_true (by omega)
        have hgt : (((j + 1 : Nat) : Int) > 0) = True := eq_true (by omega)
        have hok := ok_rng (step_ok (oksK_at hk2 (show j < j + 1 by omega)) hj)
        have wz : IntKind.i64.wrap (ps[j].a + (ps[j].d.length : Int)) = ps[j].a + (ps[j].d.length : Int) := by rw [wrap_id] <;> omega
        have hsf := same_first hk2 hk1 j (by omega)
        simp (maxSteps := 3000000) only [Try.f55, spo, pRows_len, rowsOf_len, bytesOf_rows, g_packetOk, g_ofOne, hrow, hlt, h0, hr0, hlt0, ws, pkB_ok, pk_eta, wp, hrj, hjlt, h0j, hgt, wz, Int.le_refl, D.toI, dB, D.toB, D.toL, pRow, tYs, evL, implies_true, oMin, oCopy, oBin, oUn, oLoadKid, oStoreTree, oField, oExtract, oNil, oSliceQ, oLoadRow, takeCells, TS.atRow, TS.ex, treeMode, AV.isOwn, TK.isSl, nilTk, nilsB, oLenQ, oLen, nodupB, treeOf, kidAbs, kidRows, TK.isCell, D.toL, oLoad, oStore, oMake, oIndexAddr, ↓reduceIte, reduceCtorEq, Nat.reduceBEq, Nat.reduceAdd, Nat.reduceMul, Nat.reduceLT, Nat.reduceSub, Nat.reduceLeDiff, Nat.reduceEqDiff, Nat.reduceBneDiff, Int.reduceToNat, decide_eq_true_eq, decide_eq_false_iff_not, beq_iff_eq, Int.toNat_natCast, loopK_normal, loopK_exit, loopK_ret, w2]
        have hf : follows ps[j] ps[j + 1] = (same4 ps[j] ps[j + 1] && ps[j].m && decide (ps[j].a + (ps[j].d.length : Int) ≤ ps[j + 1].a)) := rfl
        by_cases ok : ps[j + 1].ok = true
        · have hl := (ok_rng ok).2
          rw [if_pos (by simp [ok])]
          by_cases s4 : same4 ps[j + 1] ps[0] = true
          · have s5 : same4 ps[j] ps[j + 1] = true := by
              rw [same4_iff] at s4 hsf ⊢
              omega
            rw [if_pos (by simp [s4])]
            by_cases lt : ps[j + 1].a < ps[j].a + (ps[j].d.length : Int)
            · rw [if_neg (by omega), no (piecesB_no h (by rw [step_succ h, hf, decide_eq_false (p := ps[j].a + (ps[j].d.length : Int) ≤ ps[j + 1].a) (by omega)]; simp))]
              exact ⟨by kernel_rfl, _, [], rfl, ⟨⟨⟨rfl, rfl, rfl⟩, trivial⟩, trivial, by simp [rn, hpAt]⟩⟩
            · rw [if_pos lt]
              refine ⟨by kernel_rfl, ?_⟩
              by_cases hmm : ps[j].m = true
              · have hs : oksK ps (j + 1 + 1) = true := by rw [oksK_succ, hk2, step_succ h, ok, hf, s5, hmm, decide_eq_true (by omega)]; rfl
                rw [if_neg (by simp [hmm])]
                exact ⟨j + 1 + 1, [(0, some 0)], ⟨by omega, hs, by omega⟩, by omega, ⟨⟨trivial, ⟨rfl, rfl, rfl⟩, trivial, ⟨rfl, rfl, rfl⟩, ⟨rfl, rfl, rfl⟩, fitT_rep _ _ rfl⟩, ⟨.inl rfl, rfl, rfl, rfl, trivial⟩, by simp [rn, hpAt]⟩, by simp [keepIds]⟩
              · rw [if_pos (by simp [hmm]), no (piecesB_no h (by rw [step_succ h, hf, Bool.eq_false_iff.2 hmm]; simp))]
                exact ⟨_, [], rfl, ⟨⟨⟨rfl, rfl, rfl⟩, trivial⟩, trivial, by simp [rn, hpAt]⟩⟩
          · have s5 : same4 ps[j] ps[j + 1] = false := by
              rw [Bool.eq_false_iff]
              intro s5
              apply s4
              rw [same4_iff] at s5 hsf ⊢
              omega
            rw [if_neg (by simp [s4]), no (piecesB_no h (by rw [step_succ h, hf, s5]; simp))]
            exact ⟨by kernel_rfl, _, [], rfl, ⟨⟨⟨rfl, rfl, rfl⟩, trivial⟩, trivial, by simp [rn, hpAt]⟩⟩
        · rw [if_neg (by simp [ok]), no (piecesB_no h (by rw [step_succ h, Bool.eq_false_iff.2 ok]; rfl))]
          exact ⟨by kernel_rfl, _, [], rfl, ⟨⟨⟨rfl, rfl, rfl⟩, trivial⟩, trivial, by simp [rn, hpAt]⟩⟩
    · have hlt : ((k : Int) < (ps.length : Int)) = False := eq_false (by omega)
      simp (maxSteps := 3000000) only [Try.f55, spo, pRows_len, rowsOf_len, bytesOf_rows, g_l1In, hlt, D.toI, dB, D.toB, D.toL, pRow, tYs, evL, implies_true, oMin, oCopy, oBin, oUn, oLoadKid, oStoreTree, oField, oExtract, oNil, oSliceQ, oLoadRow, takeCells, TS.atRow, TS.ex, treeMode, AV.isOwn, TK.isSl, nilTk, nilsB, oLenQ, oLen, nodupB, treeOf, kidAbs, kidRows, TK.isCell, D.toL, oLoad, oStore, oMake, oIndexAddr, ↓reduceIte, reduceCtorEq, Nat.reduceBEq, Nat.reduceAdd, Nat.reduceMul, Nat.reduceLT, Nat.reduceSub, Nat.reduceLeDiff, Nat.reduceEqDiff, Nat.reduceBneDiff, Int.reduceToNat, decide_eq_true_eq, decide_eq_false_iff_not, beq_iff_eq, Int.toNat_natCast, loopK_normal, loopK_exit, loopK_ret, w2]
      obtain rfl : k = ps.length := by omega
      rw [List.take_length] at hk3 ⊢
      have hp : partB ps u = (decide (sumN ps ≤ 48) && decide (0 < ps.length) && inZ u 0 1000000) := by rw [partB, piecesB, hk2, Bool.true_and]; rfl
      by_cases g1 : (ps.length : Int) > 0
      · rw [if_pos g1]
        by_cases g2 : ((sumN ps : Nat) : Int) ≤ 48
        · rw [if_pos g2, hp, decide_eq_true (p := sumN ps ≤ 48) (by omega), decide_eq_true (p := 0 < ps.length) (by omega)]
          exact ⟨_, [], rfl, ⟨⟨⟨rfl, rfl, rfl⟩, trivial⟩, trivial, by simp [rn, hpAt]⟩⟩
        · rw [if_neg g2, hp, decide_eq_false (p := sumN ps ≤ 48) (by omega)]
          exact ⟨_, [], rfl, ⟨⟨⟨rfl, rfl, rfl⟩, trivial⟩, trivial, by simp [rn, hpAt]⟩⟩
      · rw [if_neg g1, hp, decide_eq_false (p := 0 < ps.length) (by omega), Bool.and_false]
        exact ⟨_, [], rfl, ⟨⟨⟨rfl, rfl, rfl⟩, trivial⟩, trivial, by simp [rn, hpAt]⟩⟩
  · cases hg
def sps : List (FuncId × Abs) := [(55, pureAbs g_partOk), (56, pureAbs g_ofOne)]
theorem sps_ok : ∀ p ∈ sps, CallOk Try.prog p.1 p.2 := by
  intro p hp
  simp only [sps, List.mem_cons, List.not_mem_nil, or_false] at hp
  rcases hp with rfl | rfl
  · exact specPartOk_ok.call
  · exact l5Same_ok.call
set_option maxRecDepth 100000 in
theorem specPartsOk_ok : PureOk Try.prog 12 g_partsOk := by
  refine PureOk.of_vc (G := sps) sps_ok mixed Try.func12 (by kernel_rfl) rfl ?_
  intro args cnd r bs hg hc
  unfold g_partsOk at hg
  split at hg
  · rename_i sz rows
    cases hg
    obtain ⟨l, rfl, hn, hd⟩ := hc
    rw [ptsOf_rows]
    refine ⟨⟨rfl, by simp, by simp [AV.ids, AV.ids.idsL]⟩, [.l 2 (ptRows l)], rfl, fun w vs h => CvL.ok (.cons (.l _ _ _ (ptRows_w l)) .nil) h, ?_⟩
    simp (maxSteps := 3000000) only [Try.f12, sps, ptRows_len, tYs, evL, implies_true, oMin, oCopy, oBin, oUn, oLoadKid, oStoreTree, oField, oExtract, oNil, oSliceQ, oLoadRow, takeCells, TS.atRow, TS.ex, treeMode, AV.isOwn, TK.isSl, nilTk, nilsB, oLenQ, oLen, nodupB, treeOf, kidAbs, kidRows, TK.isCell, D.toL, oLoad, oStore, oMake, oIndexAddr, ↓reduceIte, reduceCtorEq, Nat.reduceBEq, Nat.reduceAdd, Nat.reduceMul, Nat.reduceLT, Nat.reduceSub, Nat.reduceLeDiff, Nat.reduceEqDiff, Nat.reduceBneDiff, Int.reduceToNat, decide_eq_true_eq, decide_eq_false_iff_not, beq_iff_eq, Int.toNat_natCast]
    refine e_loop _ _ _ _ _ _ _ _ (fun k : Nat => [.l 2 (ptRows l), .any, .any, .v (.int .i64 (k : Int))] ++ List.replicate (Try.f12.ntmps - 4) .any) (fun k => []) (fun k => k ≤ l.length ∧ ptsK l k = true) (fun k => l.length - k) 0 (fun k => by simp) ?_ fun k hk' => ?_
    · exact ⟨0, [], ⟨Nat.zero_le _, rfl⟩, ⟨⟨⟨rfl, rfl, rfl⟩, trivial, trivial, ⟨rfl, rfl, rfl⟩, fitT_rep _ _ rfl⟩, trivial, by simp [rn, hpAt]⟩, by simp [keepIds]⟩
    obtain ⟨hk1, hk2⟩ := hk'
    have w2 : IntKind.i64.wrap ((k : Int) + 1) = ((k + 1 : Nat) : Int) := by rw [wrap_id] <;> omega
    by_cases h : k < l.length
    · have hrow := ptRows_get l k h
      have hlt : ((k : Int) < (l.length : Int)) = True := eq_true (by omega)
      have h0 : (0 ≤ (k : Int)) = True := eq_true (by omega)
      have hx := hd l[k] (List.getElem_mem h)
      have hst : ptStep l k = (partB l[k].ps l[k].u && decide (findP (l.take k) (l[k].ps.getD 0 pk0) = k)) := by rw [ptStep, pt_get h]
      by_cases h1 : partB l[k].ps l[k].u = true
      · obtain ⟨q1, q2, q3, q4, q5⟩ := partB_all h1
        have hr0 := pRows_get l[k].ps 0 q3
        have hl0 : ((0 : Int) < (l[k].ps.length : Int)) = True := eq_true (by omega)
        rw [h1, Bool.true_and, pk_get q3] at hst
        have htl : (l.take k).length = k := by rw [List.length_take]; omega
        simp (maxSteps := 3000000) only [Try.f12, sps, ptRows_len, pRows_len, rowsOf_len, bytesOf_rows, g_partOk, psOf_rows, hrow, hlt, h0, h1, D.toI, dB, D.toB, D.toL, ptRow, tYs, evL, implies_true, oMin, oCopy, oBin, oUn, oLoadKid, oStoreTree, oField, oExtract, oNil, oSliceQ, oLoadRow, takeCells, TS.atRow, TS.ex, treeMode, AV.isOwn, TK.isSl, nilTk, nilsB, oLenQ, oLen, nodupB, treeOf, kidAbs, kidRows, TK.isCell, D.toL, oLoad, oStore, oMake, oIndexAddr, ↓reduceIte, reduceCtorEq, Nat.reduceBEq, Nat.reduceAdd, Nat.reduceMul, Nat.reduceLT, Nat.reduceSub, Nat.reduceLeDiff, Nat.reduceEqDiff, Nat.reduceBneDiff, Int.reduceToNat, decide_eq_true_eq, decide_eq_false_iff_not, beq_iff_eq, Int.toNat_natCast, loopK_normal, loopK_exit, loopK_ret, w2]
        refine ⟨⟨_, rfl, hx⟩, ?_⟩
        refine e_loop _ _ _ _ _ _ _ _ (fun j : Nat => [.l 2 (ptRows l), .any, .any, .v (.int .i64 (k : Int)), .v (.int .i64 (j : Int))] ++ List.replicate (Try.f12.ntmps - 5) .any) (fun j => []) (fun j => j ≤ k ∧ ∀ i, i < j → of1 (l.getD i pt0) l[k].ps[0] = false) (fun j => k - j) 0 (fun j => by simp) ?_ fun j hj' => ?_
        · exact ⟨0, [], ⟨Nat.zero_le _, fun i hi => by omega⟩, ⟨⟨⟨rfl, rfl, rfl⟩, trivial, trivial, ⟨rfl, rfl, rfl⟩, ⟨rfl, rfl, rfl⟩, fitT_rep _ _ rfl⟩, trivial, by simp [rn, hpAt]⟩, by simp [keepIds]⟩
        obtain ⟨hj1, hj2⟩ := hj'
        have w3 : IntKind.i64.wrap ((j : Int) + 1) = ((j + 1 : Nat) : Int) := by rw [wrap_id] <;> omega
        by_cases hj : j < k
        · have hjl : j < l.length := by omega
          have hpj : partB l[j].ps l[j].u = true := by
            have := ptsK_at hk2 hj
            rw [ptStep, pt_get hjl, Bool.and_eq_true] at this
            exact this.1
          have hnj := (partB_all hpj).2.2.1
          have hrj := ptRows_get l j hjl
          have hrj0 := pRows_get l[j].ps 0 hnj
          have hlj : ((j : Int) < (l.length : Int)) = True := eq_true (by omega)
          have hlj0 : ((0 : Int) < (l[j].ps.length : Int)) = True := eq_true (by omega)
          have h0j : (0 ≤ (j : Int)) = True := eq_true (by omega)
          have hlt2 : ((j : Int) < (k : Int)) = True := eq_true (by omega)
          have ho : of1 (l.getD j pt0) l[k].ps[0] = same4 l[j].ps[0] l[k].ps[0] := by rw [of1, pt_get hjl, pk_get hnj]
          simp (maxSteps := 3000000) only [Try.f12, sps, ptRows_len, pRows_len, rowsOf_len, bytesOf_rows, g_ofOne, hrow, hlt, h0, hr0, hl0, hrj, hrj0, hlj, hlj0, h0j, hlt2, pk_eta, pRow, Int.le_refl, w3, D.toI, dB, D.toB, D.toL, ptRow, tYs, evL, implies_true, oMin, oCopy, oBin, oUn, oLoadKid, oStoreTree, oField, oExtract, oNil, oSliceQ, oLoadRow, takeCells, TS.atRow, TS.ex, treeMode, AV.isOwn, TK.isSl, nilTk, nilsB, oLenQ, oLen, nodupB, treeOf, kidAbs, kidRows, TK.isCell, D.toL, oLoad, oStore, oMake, oIndexAddr, ↓reduceIte, reduceCtorEq, Nat.reduceBEq, Nat.reduceAdd, Nat.reduceMul, Nat.reduceLT, Nat.reduceSub, Nat.reduceLeDiff, Nat.reduceEqDiff, Nat.reduceBneDiff, Int.reduceToNat, decide_eq_true_eq, decide_eq_false_iff_not, beq_iff_eq, Int.toNat_natCast, loopK_normal, loopK_exit, loopK_ret, w2]
          refine ⟨by kernel_rfl, ?_⟩
          by_cases e : same4 l[j].ps[0] l[k].ps[0] = true
          · have e2 : findP (l.take k) l[k].ps[0] = j := findP_eq (by omega) (fun i hi => by
                have := hj2 i hi
                rw [List.getD_eq_getElem?_getD, List.getElem?_take, if_pos (by omega), ← List.getD_eq_getElem?_getD]; exact this) (.inr (by
                rw [List.getD_eq_getElem?_getD, List.getElem?_take, if_pos hj, ← List.getD_eq_getElem?_getD, ho]; exact e))
            rw [if_pos e, ptsB_no h (by rw [hst, e2, decide_eq_false (by omega)])]
            exact ⟨_, [], rfl, ⟨⟨⟨rfl, rfl, rfl⟩, trivial⟩, trivial, by simp [rn, hpAt]⟩⟩
          · rw [if_neg e]
            exact ⟨j + 1, [], ⟨by omega, fun i hi => by
              by_cases hij : i = j
              · rw [hij, ho]; exact Bool.eq_false_iff.2 e
              · exact hj2 i (by omega)⟩, by omega, ⟨⟨⟨rfl, rfl, rfl⟩, trivial, trivial, ⟨rfl, rfl, rfl⟩, ⟨rfl, rfl, rfl⟩, fitT_rep _ _ rfl⟩, trivial, by simp [rn, hpAt]⟩, by simp [keepIds]⟩
        · have hlt2 : ((j : Int) < (k : Int)) = False := eq_false (by omega)
          obtain rfl : j = k := by omega
          have e2 : findP (l.take j) l[j].ps[0] = j := findP_eq (by omega) (fun i hi => by
                have := hj2 i hi
                rw [List.getD_eq_getElem?_getD, List.getElem?_take, if_pos (by omega), ← List.getD_eq_getElem?_getD]; exact this) (.inl htl.symm)
          simp (maxSteps := 3000000) only [Try.f12, sps, ptRows_len, pRows_len, rowsOf_len, bytesOf_rows, hlt2, D.toI, dB, D.toB, D.toL, ptRow, tYs, evL, implies_true, oMin, oCopy, oBin, oUn, oLoadKid, oStoreTree, oField, oExtract, oNil, oSliceQ, oLoadRow, takeCells, TS.atRow, TS.ex, treeMode, AV.isOwn, TK.isSl, nilTk, nilsB, oLenQ, oLen, nodupB, treeOf, kidAbs, kidRows, TK.isCell, D.toL, oLoad, oStore, oMake, oIndexAddr, ↓reduceIte, reduceCtorEq, Nat.reduceBEq, Nat.reduceAdd, Nat.reduceMul, Nat.reduceLT, Nat.reduceSub, Nat.reduceLeDiff, Nat.reduceEqDiff, Nat.reduceBneDiff, Int.reduceToNat, decide_eq_true_eq, decide_eq_false_iff_not, beq_iff_eq, Int.toNat_natCast, loopK_normal, loopK_exit, loopK_ret, w2]
          exact ⟨j + 1, [], ⟨by omega, by rw [ptsK_succ, hk2, hst, e2]; simp⟩, by omega, ⟨⟨⟨rfl, rfl, rfl⟩, trivial, trivial, ⟨rfl, rfl, rfl⟩, fitT_rep _ _ rfl⟩, trivial, by simp [rn, hpAt]⟩, by simp [keepIds]⟩
      · rw [Bool.eq_false_iff.2 h1, Bool.false_and] at hst
        simp (maxSteps := 3000000) only [Try.f12, sps, ptRows_len, pRows_len, rowsOf_len, bytesOf_rows, g_partOk, psOf_rows, hrow, hlt, h0, Bool.eq_false_iff.2 h1, D.toI, dB, D.toB, D.toL, ptRow, tYs, evL, implies_true, oMin, oCopy, oBin, oUn, oLoadKid, oStoreTree, oField, oExtract, oNil, oSliceQ, oLoadRow, takeCells, TS.atRow, TS.ex, treeMode, AV.isOwn, TK.isSl, nilTk, nilsB, oLenQ, oLen, nodupB, treeOf, kidAbs, kidRows, TK.isCell, D.toL, oLoad, oStore, oMake, oIndexAddr, ↓reduceIte, reduceCtorEq, Nat.reduceBEq, Nat.reduceAdd, Nat.reduceMul, Nat.reduceLT, Nat.reduceSub, Nat.reduceLeDiff, Nat.reduceEqDiff, Nat.reduceBneDiff, Int.reduceToNat, decide_eq_true_eq, decide_eq_false_iff_not, beq_iff_eq, Int.toNat_natCast, loopK_normal, loopK_exit, loopK_ret, w2]
        rw [ptsB_no h hst]
        exact ⟨⟨_, rfl, hx⟩, _, [], rfl, ⟨⟨⟨rfl, rfl, rfl⟩, trivial⟩, trivial, by simp [rn, hpAt]⟩⟩
    · have hlt : ((k : Int) < (l.length : Int)) = False := eq_false (by omega)
      simp (maxSteps := 3000000) only [Try.f12, sps, ptRows_len, pRows_len, rowsOf_len, bytesOf_rows, hlt, D.toI, dB, D.toB, D.toL, ptRow, tYs, evL, implies_true, oMin, oCopy, oBin, oUn, oLoadKid, oStoreTree, oField, oExtract, oNil, oSliceQ, oLoadRow, takeCells, TS.atRow, TS.ex, treeMode, AV.isOwn, TK.isSl, nilTk, nilsB, oLenQ, oLen, nodupB, treeOf, kidAbs, kidRows, TK.isCell, D.toL, oLoad, oStore, oMake, oIndexAddr, ↓reduceIte, reduceCtorEq, Nat.reduceBEq, Nat.reduceAdd, Nat.reduceMul, Nat.reduceLT, Nat.reduceSub, Nat.reduceLeDiff, Nat.reduceEqDiff, Nat.reduceBneDiff, Int.reduceToNat, decide_eq_true_eq, decide_eq_false_iff_not, beq_iff_eq, Int.toNat_natCast, loopK_normal, loopK_exit, loopK_ret, w2]
      obtain rfl : k = l.length := by omega
      have e : ptsB l = decide ((l.length : Int) ≤ 3) := by
        rw [ptsB, hk2, Bool.and_true]
        exact decide_eq_decide.2 (by omega)
      rw [e]
      exact ⟨_, [], rfl, ⟨⟨⟨rfl, rfl, rfl⟩, trivial⟩, trivial, by simp [rn, hpAt]⟩⟩
  · cases hg
set_option maxRecDepth 100000 in
theorem l5CopyS_ok : PureOk Try.prog 69 g_packetCopiedS := by
  refine PureOk.of_vc (G := []) (by simp) mixed Try.func69 (by kernel_rfl) rfl ?_
  intro args cnd r bs hg hc
  unfold g_packetCopiedS at hg
  split at hg
  · rename_i f t p h i a m u sz rows
    cases hg
    obtain ⟨xs, rfl, hl⟩ := hc
    refine ⟨⟨rfl, by simpa [flatB] using rowsOf_flat xs, by simp [AV.ids, AV.ids.idsL]⟩, [.agg [.v (.int .i64 f), .v (.int .i64 t), .v (.int .i64 p), .v (.int .i64 h), .v (.int .i64 i), .v (.int .i64 a), .v (.bool m), .v (.bool u), .l 1 (rowsOfBytes xs)]], rfl, fun w vs h => CvL.ok (.cons (.cons (.refl _) (.cons (.refl _) (.cons (.refl _) (.cons (.refl _) (.cons (.refl _) (.cons (.refl _) (.cons (.refl _) (.cons (.refl _) (.cons (.l _ _ _ (rowsOf_w xs)) .nil))))))))) .nil) h, ?_⟩
    simp (maxSteps := 3000000) only [Try.f69, rowsOf_len, tYs, evL, implies_true, oMin, oCopy, oBin, oUn, oLoadKid, oStoreTree, oField, oExtract, oNil, oSliceQ, oLoadRow, takeCells, TS.atRow, TS.ex, treeMode, AV.isOwn, TK.isSl, nilTk, nilsB, oLenQ, oLen, nodupB, treeOf, kidAbs, kidRows, TK.isCell, D.toL, oLoad, oStore, oMake, oIndexAddr, ↓reduceIte, reduceCtorEq, Nat.reduceBEq, Nat.reduceAdd, Nat.reduceMul, Nat.reduceLT, Nat.reduceSub, Nat.reduceLeDiff, Nat.reduceEqDiff, Nat.reduceBneDiff, Int.reduceToNat, decide_eq_true_eq, decide_eq_false_iff_not, beq_iff_eq, Int.toNat_natCast]
    exact ⟨⟨by omega, by omega, rowsOf_w _⟩, _, [(0, some _)], rfl, ⟨⟨⟨rfl, rfl, rfl⟩, trivial⟩, ⟨.inl rfl, rfl, rfl, rfl, trivial⟩, by simp [rn, hpAt]⟩⟩
  · cases hg
theorem l5Copy_ok : PureOk Try.prog 69 g_packetCopied := l5CopyS_ok.toTree fun args c r bs' h => by
  unfold g_packetCopied at h
  split at h
  · cases h; exact ⟨_, rfl, rfl⟩
  · cases h
def slp : List (FuncId × Abs) := [(69, pureAbs g_packetCopied)]
theorem slp_ok : ∀ p ∈ slp, CallOk Try.prog p.1 p.2 := by
  intro p hp
  simp only [slp, List.mem_cons, List.not_mem_nil, or_false] at hp
  rcases hp with rfl
  · exact l5Copy_ok.call
set_option maxRecDepth 100000 in
theorem l5Part_ok : PureOk Try.prog 68 g_partCopied := by
  refine PureOk.of_vc (G := slp) slp_ok mixed Try.func68 (by kernel_rfl) rfl ?_
  intro args cnd r bs hg hc
  unfold g_partCopied at hg
  split at hg
  · rename_i sz rows u
    cases hg
    obtain ⟨ps, rfl, hn, hd⟩ := hc
    refine ⟨⟨rfl, by simp [flatB], by simp [AV.ids, AV.ids.idsL]⟩, [.agg [.l 9 (pRows ps), .v (.int .i64 u)]], rfl, fun w vs h => CvL.ok (.cons (.cons (.l _ _ _ (pRows_w ps)) (.cons (.refl _) .nil)) .nil) h, ?_⟩
    simp (maxSteps := 3000000) only [Try.f68, slp, pRows_len, tYs, evL, implies_true, oMin, oCopy, oBin, oUn, oLoadKid, oStoreTree, oField, oExtract, oNil, oSliceQ, oLoadRow, takeCells, TS.atRow, TS.ex, treeMode, AV.isOwn, TK.isSl, nilTk, nilsB, oLenQ, oLen, nodupB, treeOf, kidAbs, kidRows, TK.isCell, D.toL, oLoad, oStore, oMake, oIndexAddr, ↓reduceIte, reduceCtorEq, Nat.reduceBEq, Nat.reduceAdd, Nat.reduceMul, Nat.reduceLT, Nat.reduceSub, Nat.reduceLeDiff, Nat.reduceEqDiff, Nat.reduceBneDiff, Int.reduceToNat, decide_eq_true_eq, decide_eq_false_iff_not, beq_iff_eq, Int.toNat_natCast]
    refine e_loop _ _ _ _ _ _ _ _ (fun k : Nat => [.any, .ptr 0 0, .ptr 1 0, .ptr 2 0, .v (.int .i64 (k : Int))] ++ List.replicate (Try.f68.ntmps - 5) .any) (fun k => [(0, .var 38 [.l 9 (pRows ps), .v (.int .i64 u)]), (1, .var 38 [.v nilS, .v (.int .i64 0)]), (2, .var 38 [.own 3, .v (.int .i64 u)]), (3, .tr .whole 29 9 [.cell, .cell, .cell, .cell, .cell, .cell, .cell, .cell, .sl 5 1 [.cell]] (pRows (ps.take k)))]) (fun k => k ≤ ps.length) (fun k => ps.length - k) 4 (fun k => by simp) ?_ fun k hk' => ?_
    · exact ⟨0, [(0, some 0), (1, some _), (2, some _), (3, none)], Nat.zero_le _, ⟨⟨trivial, ⟨rfl, rfl, rfl⟩, ⟨rfl, rfl, rfl⟩, ⟨rfl, rfl, rfl⟩, ⟨rfl, rfl, rfl⟩, fitT_rep _ _ rfl⟩, ⟨.inl rfl, rfl, rfl, rfl, .inl rfl, rfl, rfl, rfl, .inl rfl, rfl, rfl, rfl, ⟨by omega, rfl, rfl⟩, rfl, rfl, rfl, trivial⟩, by simp [rn, hpAt]⟩, by simp [keepIds]⟩
    have w2 : IntKind.i64.wrap ((k : Int) + 1) = ((k + 1 : Nat) : Int) := by rw [wrap_id] <;> omega
    by_cases h : k < ps.length
    · have hrow := pRows_get ps k h
      have hlt : ((k : Int) < (ps.length : Int)) = True := eq_true (by omega)
      have h0 : (0 ≤ (k : Int)) = True := eq_true (by omega)
      have hx := hd ps[k] (List.getElem_mem h)
      have e1 : pRows (ps.take k) ++ [pRow ps[k]] = pRows (ps.take (k + 1)) := by
        rw [List.take_add_one, List.getElem?_eq_getElem h, ← pRows_app]; rfl
      have hpl : (pRows (ps.take k)).length = k := by rw [pRows_len, List.length_take]; omega
      rw [pRow] at e1
      simp (maxSteps := 3000000) only [Try.f68, slp, pRows_len, rowsOf_len, bytesOf_rows, g_packetCopied, hrow, hlt, h0, hpl, e1, D.toI, dB, D.toB, D.toL, pRow, tYs, evL, implies_true, oMin, oCopy, oBin, oUn, oLoadKid, oStoreTree, oField, oExtract, oNil, oSliceQ, oLoadRow, takeCells, TS.atRow, TS.ex, treeMode, AV.isOwn, TK.isSl, nilTk, nilsB, oLenQ, oLen, nodupB, treeOf, kidAbs, kidRows, TK.isCell, D.toL, oLoad, oStore, oMake, oIndexAddr, ↓reduceIte, reduceCtorEq, Nat.reduceBEq, Nat.reduceAdd, Nat.reduceMul, Nat.reduceLT, Nat.reduceSub, Nat.reduceLeDiff, Nat.reduceEqDiff, Nat.reduceBneDiff, Int.reduceToNat, decide_eq_true_eq, decide_eq_false_iff_not, beq_iff_eq, Int.toNat_natCast, loopK_normal, loopK_exit, loopK_ret, w2]
      exact ⟨⟨_, rfl, hx⟩, ⟨by omega, by omega⟩, by kernel_rfl, k + 1, [(0, some 0), (1, some _), (2, some _), (3, some _)], by omega, by omega, ⟨⟨trivial, ⟨rfl, rfl, rfl⟩, ⟨rfl, rfl, rfl⟩, ⟨rfl, rfl, rfl⟩, ⟨rfl, rfl, rfl⟩, fitT_rep _ _ rfl⟩, ⟨.inl rfl, rfl, rfl, rfl, .inl rfl, rfl, rfl, rfl, .inl rfl, rfl, rfl, rfl, .inl rfl, rfl, rfl, rfl, trivial⟩, by simp [rn, hpAt]⟩, by simp [keepIds]⟩
    · have hlt : ((k : Int) < (ps.length : Int)) = False := eq_false (by omega)
      simp (maxSteps := 3000000) only [Try.f68, slp, pRows_len, rowsOf_len, bytesOf_rows, hlt, D.toI, dB, D.toB, D.toL, pRow, tYs, evL, implies_true, oMin, oCopy, oBin, oUn, oLoadKid, oStoreTree, oField, oExtract, oNil, oSliceQ, oLoadRow, takeCells, TS.atRow, TS.ex, treeMode, AV.isOwn, TK.isSl, nilTk, nilsB, oLenQ, oLen, nodupB, treeOf, kidAbs, kidRows, TK.isCell, D.toL, oLoad, oStore, oMake, oIndexAddr, ↓reduceIte, reduceCtorEq, Nat.reduceBEq, Nat.reduceAdd, Nat.reduceMul, Nat.reduceLT, Nat.reduceSub, Nat.reduceLeDiff, Nat.reduceEqDiff, Nat.reduceBneDiff, Int.reduceToNat, decide_eq_true_eq, decide_eq_false_iff_not, beq_iff_eq, Int.toNat_natCast, loopK_normal, loopK_exit, loopK_ret, w2]
      obtain rfl : k = ps.length := by omega
      rw [List.take_length]
      exact ⟨_, [(0, some _)], rfl, ⟨⟨⟨rfl, rfl, rfl⟩, trivial⟩, ⟨.inl rfl, rfl, rfl, rfl, trivial⟩, by simp [rn, hpAt]⟩⟩
  · cases hg
end Go.Proofs.Ytegffkmakkccaaa
