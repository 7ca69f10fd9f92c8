import Derived.Test.YtegffkmakkccaaaXf
namespace Go.Proofs.Ytegffkmakkccaaa
open Go.RowKit
set_option linter.unusedSimpArgs false
set_option linter.unusedVariables false
theorem reach_sum {ps : List Pk} : ∀ {k : Nat}, k ≤ ps.length → reachK ps k = true → zK ps k = (sumN (ps.take k) : Int)
  | 0, _, _ => by simp [zK, sumN]
  | k + 1, hk, h => by
    rw [reachK_succ, Bool.and_eq_true, beq_iff_eq] at h
    have ih := reach_sum (k := k) (by omega) h.1
    rw [pk_get (show k < ps.length by omega)] at h
    rw [zK, if_neg (by omega), Nat.add_sub_cancel, pk_get (show k < ps.length by omega), Pk.z, sumN_take (show k < ps.length by omega)]
    omega
def spw : List (FuncId × Abs) := [(55, pureAbs g_partOk)]
theorem spw_ok : ∀ p ∈ spw, CallOk Try.prog p.1 p.2 := by
  intro p hp
  simp only [spw, List.mem_cons, List.not_mem_nil, or_false] at hp
  rcases hp with rfl
  · exact specPartOk_ok.call
set_option maxRecDepth 100000 in
theorem specPartWhole_ok : PureOk Try.prog 67 g_partWhole := by
  refine PureOk.of_vc (G := spw) spw_ok mixed Try.func67 (by kernel_rfl) rfl ?_
  intro args cnd r bs hg hc
  unfold g_partWhole at hg
  split at hg
  · rename_i sz rows u
    cases hg
    obtain ⟨ps, rfl, hm⟩ := hc
    rw [psOf_rows]
    refine ⟨⟨rfl, by simpa [flatB] using rowsOf_flat _, by simp [AV.ids, AV.ids.idsL]⟩, [.agg [.l 9 (pRows ps), .v (.int .i64 u)]], rfl, fun w vs h => CvL.ok (.cons (.cons (.l _ _ _ (pRows_w ps)) (.cons (.refl _) .nil)) .nil) h, ?_⟩
    simp (maxSteps := 3000000) only [Try.f67, spw, g_partOk, psOf_rows, pRows_len, tYs, evL, implies_true, oMin, oCopy, oBin, oUn, oLoadKid, oStoreTree, oField, oExtract, oNil, oSliceQ, oLoadRow, takeCells, TS.atRow, TS.ex, treeMode, AV.isOwn, TK.isSl, nilTk, nilsB, oLenQ, oLen, nodupB, treeOf, kidAbs, kidRows, TK.isCell, D.toL, oLoad, oStore, oMake, oIndexAddr, ↓reduceIte, reduceCtorEq, Nat.reduceBEq, Nat.reduceAdd, Nat.reduceMul, Nat.reduceLT, Nat.reduceSub, Nat.reduceLeDiff, Nat.reduceEqDiff, Nat.reduceBneDiff, Int.reduceToNat, decide_eq_true_eq, decide_eq_false_iff_not, beq_iff_eq, Int.toNat_natCast]
    have no : wholeB ps u = false → wholeV ps u = pk0 := fun e => by rw [wholeV, if_neg (by simp [e])]
    refine ⟨⟨_, rfl, hm⟩, ?_⟩
    by_cases h1 : partB ps u = true
    · obtain ⟨q1, q2, q3, q4, q5⟩ := partB_all h1
      have hr0 := pRows_get ps 0 q3
      have hrl := pRows_get ps (ps.length - 1) (by omega)
      have w0 : (0 ≤ (0 : Int)) = True := eq_true (by omega)
      have w1 : ((0 : Int) < (ps.length : Int)) = True := eq_true (by omega)
      have hpq := partB_len h1
      have wl : IntKind.i64.wrap ((ps.length : Int) - 1) = ((ps.length - 1 : Nat) : Int) := by rw [wrap_id] <;> omega
      have hps := partB_len h1
      have hml : moreK ps ps.length = ps[ps.length - 1].m := by rw [moreK, if_neg (by omega), pk_get (by omega)]
      by_cases h2 : ps[ps.length - 1].m = true
      · have hw : wholeB ps u = false := by rw [wholeB, reachB, hml, h2]; simp
        simp (maxSteps := 3000000) only [h1, h2, wl, hrl, hw, no hw, D.toI, dB, D.toB, D.toL, pRow, tYs, evL, implies_true, oMin, oCopy, oBin, oUn, oLoadKid, oStoreTree, oField, oExtract, oNil, oSliceQ, oLoadRow, takeCells, TS.atRow, TS.ex, treeMode, AV.isOwn, TK.isSl, nilTk, nilsB, oLenQ, oLen, nodupB, treeOf, kidAbs, kidRows, TK.isCell, D.toL, oLoad, oStore, oMake, oIndexAddr, ↓reduceIte, reduceCtorEq, Nat.reduceBEq, Nat.reduceAdd, Nat.reduceMul, Nat.reduceLT, Nat.reduceSub, Nat.reduceLeDiff, Nat.reduceEqDiff, Nat.reduceBneDiff, Int.reduceToNat, decide_eq_true_eq, decide_eq_false_iff_not, beq_iff_eq, Int.toNat_natCast]
        exact ⟨⟨by omega, by omega⟩, _, [(0, none)], rfl, ⟨⟨⟨rfl, rfl, rfl⟩, trivial⟩, ⟨⟨by omega, rfl⟩, rfl, rfl, rfl, trivial⟩, by simp [rn, hpAt]⟩⟩
      · have hrb : reachB ps = reachK ps ps.length := by rw [reachB, hml, Bool.eq_false_iff.2 h2]; simp
        simp (maxSteps := 3000000) only [h1, Bool.eq_false_iff.2 h2, wl, hrl, hr0, D.toI, dB, D.toB, D.toL, pRow, tYs, evL, implies_true, oMin, oCopy, oBin, oUn, oLoadKid, oStoreTree, oField, oExtract, oNil, oSliceQ, oLoadRow, takeCells, TS.atRow, TS.ex, treeMode, AV.isOwn, TK.isSl, nilTk, nilsB, oLenQ, oLen, nodupB, treeOf, kidAbs, kidRows, TK.isCell, D.toL, oLoad, oStore, oMake, oIndexAddr, ↓reduceIte, reduceCtorEq, Nat.reduceBEq, Nat.reduceAdd, Nat.reduceMul, Nat.reduceLT, Nat.reduceSub, Nat.reduceLeDiff, Nat.reduceEqDiff, Nat.reduceBneDiff, Int.reduceToNat, decide_eq_true_eq, decide_eq_false_iff_not, beq_iff_eq, Int.toNat_natCast]
        refine ⟨⟨by omega, by omega⟩, ⟨by omega, by omega⟩, ?_⟩
        refine e_loop _ _ _ _ _ _ _ _ (fun k : Nat => [.any, .ptr 0 0, .ptr 1 0, .any, .ptr 2 0, .v (.int .i64 (k : Int))] ++ List.replicate (Try.f67.ntmps - 6) .any) (fun k => [(0, .var 38 [.l 9 (pRows ps), .v (.int .i64 u)]), (1, .var 29 [.v (.int .i64 0), .v (.int .i64 0), .v (.int .i64 0), .v (.int .i64 0), .v (.int .i64 0), .v (.int .i64 0), .v (.bool false), .v (.bool false), .v nilS]), (2, .var 29 [.v (.int .i64 ps[0].f), .v (.int .i64 ps[0].t), .v (.int .i64 ps[0].p), .v (.int .i64 ps[0].h), .v (.int .i64 ps[0].i), .v (.int .i64 ps[0].a), .v (.bool false), .v (.bool ps[0].u), .own 3]), (3, .sl 5 1 (rowsOfBytes (joinD (ps.take k))))]) (fun k => k ≤ ps.length ∧ reachK ps k = true) (fun k => ps.length - k) 4 (fun k => by simp) ?_ fun k hk' => ?_
        · exact ⟨0, [(0, some 0), (1, some _), (2, some _), (3, some _)], ⟨Nat.zero_le _, rfl⟩, ⟨⟨trivial, ⟨rfl, rfl, rfl⟩, ⟨rfl, rfl, rfl⟩, trivial, ⟨rfl, rfl, rfl⟩, ⟨rfl, rfl, rfl⟩, fitT_rep _ _ rfl⟩, ⟨.inl rfl, rfl, rfl, rfl, .inl rfl, rfl, rfl, rfl, .inl rfl, rfl, rfl, rfl, .inl rfl, rfl, rfl, rfl, trivial⟩, by simp [rn, hpAt]⟩, by simp [keepIds]⟩
        obtain ⟨hk1, hk2⟩ := hk'
        have w2 : IntKind.i64.wrap ((k : Int) + 1) = ((k + 1 : Nat) : Int) := by rw [wrap_id] <;> omega
        by_cases h : k < ps.length
        · have hrow := pRows_get ps k h
          have hlt : ((k : Int) < (ps.length : Int)) = True := eq_true (by omega)
          have h0 : (0 ≤ (k : Int)) = True := eq_true (by omega)
          have hx := ok_rng (q1 ps[k] (List.getElem_mem h))
          have hj : rowsOfBytes (joinD (ps.take k)) ++ rowsOfBytes ps[k].d = rowsOfBytes (joinD (ps.take (k + 1))) := by rw [rowsOf_app, joinD_take h]
          have hs := sumN_le ps (k + 1)
          have hjl : (joinD (ps.take k)).length + ps[k].d.length ≤ 48 := by rw [sumN_take h] at hs; rw [joinD_len]; omega
          have hz : zK ps k = ((joinD (ps.take k)).length : Int) := by rw [reach_sum hk1 hk2, joinD_len]
          simp (maxSteps := 3000000) only [Try.f67, spw, pRows_len, rowsOf_len, bytesOf_rows, hrow, hlt, h0, hj, D.toI, dB, D.toB, D.toL, pRow, tYs, evL, implies_true, oMin, oCopy, oBin, oUn, oLoadKid, oStoreTree, oField, oExtract, oNil, oSliceQ, oLoadRow, takeCells, TS.atRow, TS.ex, treeMode, AV.isOwn, TK.isSl, nilTk, nilsB, oLenQ, oLen, nodupB, treeOf, kidAbs, kidRows, TK.isCell, D.toL, oLoad, oStore, oMake, oIndexAddr, ↓reduceIte, reduceCtorEq, Nat.reduceBEq, Nat.reduceAdd, Nat.reduceMul, Nat.reduceLT, Nat.reduceSub, Nat.reduceLeDiff, Nat.reduceEqDiff, Nat.reduceBneDiff, Int.reduceToNat, decide_eq_true_eq, decide_eq_false_iff_not, beq_iff_eq, Int.toNat_natCast, loopK_normal, loopK_exit, loopK_ret, w2]
          refine ⟨by kernel_rfl, ?_⟩
          by_cases e : ps[k].a = ((joinD (ps.take k)).length : Int)
          · have hs : reachK ps (k + 1) = true := by rw [reachK_succ, hk2, pk_get h, e, hz]; simp
            rw [if_neg (by simp [e])]
            exact ⟨⟨by omega, by omega, rowsOf_w _⟩, by kernel_rfl, k + 1, [(0, some 0), (1, some _), (2, some _), (3, some _)], ⟨by omega, hs⟩, by omega, ⟨⟨trivial, ⟨rfl, rfl, rfl⟩, ⟨rfl, rfl, rfl⟩, trivial, ⟨rfl, rfl, rfl⟩, ⟨rfl, rfl, rfl⟩, fitT_rep _ _ rfl⟩, ⟨.inl rfl, rfl, rfl, rfl, .inl rfl, rfl, rfl, rfl, .inl rfl, rfl, rfl, rfl, .inl rfl, rfl, rfl, rfl, trivial⟩, by simp [rn, hpAt]⟩, by simp [keepIds]⟩
          · have hr := reachK_no h (show ((ps.getD k pk0).a == zK ps k) = false by rw [pk_get h, hz]; simpa using e)
            have hw : wholeB ps u = false := by rw [wholeB, hr]; simp
            rw [if_pos (by simp [e]), hw, no hw]
            exact ⟨_, [(0, none)], rfl, ⟨⟨⟨rfl, rfl, rfl⟩, trivial⟩, ⟨⟨by omega, rfl⟩, rfl, rfl, rfl, trivial⟩, by simp [rn, hpAt]⟩⟩
        · have hlt : ((k : Int) < (ps.length : Int)) = False := eq_false (by omega)
          simp (maxSteps := 3000000) only [Try.f67, spw, pRows_len, rowsOf_len, bytesOf_rows, hlt, D.toI, dB, D.toB, D.toL, pRow, tYs, evL, implies_true, oMin, oCopy, oBin, oUn, oLoadKid, oStoreTree, oField, oExtract, oNil, oSliceQ, oLoadRow, takeCells, TS.atRow, TS.ex, treeMode, AV.isOwn, TK.isSl, nilTk, nilsB, oLenQ, oLen, nodupB, treeOf, kidAbs, kidRows, TK.isCell, D.toL, oLoad, oStore, oMake, oIndexAddr, ↓reduceIte, reduceCtorEq, Nat.reduceBEq, Nat.reduceAdd, Nat.reduceMul, Nat.reduceLT, Nat.reduceSub, Nat.reduceLeDiff, Nat.reduceEqDiff, Nat.reduceBneDiff, Int.reduceToNat, decide_eq_true_eq, decide_eq_false_iff_not, beq_iff_eq, Int.toNat_natCast, loopK_normal, loopK_exit, loopK_ret, w2]
          obtain rfl : k = ps.length := by omega
          have hw : wholeB ps u = true := by rw [wholeB, h1, hrb, hk2]; rfl
          have hv : wholeV ps u = { ps[0] with m := false, d := joinD ps } := by rw [wholeV, if_pos hw, pk_get q3]
          rw [List.take_length, hw, hv]
          exact ⟨_, [(0, some _)], rfl, ⟨⟨⟨rfl, rfl, rfl⟩, trivial⟩, ⟨.inl rfl, rfl, rfl, rfl, trivial⟩, by simp [rn, hpAt]⟩⟩
    · have hw : wholeB ps u = false := by rw [wholeB, Bool.eq_false_iff.2 h1]; rfl
      rw [if_neg (by simp [h1]), hw, no hw]
      exact ⟨_, [(0, none)], rfl, ⟨⟨⟨rfl, rfl, rfl⟩, trivial⟩, ⟨⟨by omega, rfl⟩, rfl, rfl, rfl, trivial⟩, by simp [rn, hpAt]⟩⟩
  · cases hg
end Go.Proofs.Ytegffkmakkccaaa
