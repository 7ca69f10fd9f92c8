import Derived.Test.YtmhmhgegdagjkaaHs
set_option linter.unusedVariables false
set_option linter.unusedSimpArgs false
namespace Go.Proofs.Ytmhmhgegdagjkaa
open Go.RowKit
set_option linter.unusedSimpArgs false
theorem ptsB_take {l : List Pt} (h : ptsB l = true) (k : Nat) : ptsB (l.take k) = true := by
  simp only [ptsB, Bool.and_eq_true, decide_eq_true_eq] at h ⊢
  refine ⟨by rw [List.length_take]; omega, List.all_eq_true.2 fun j hj => ?_⟩
  have hj' := List.mem_range.1 hj
  rw [List.length_take] at hj'
  have hs := ptsK_at h.2 (show j < l.length by omega)
  rw [ptStep] at hs ⊢
  have e1 : (l.take k).getD j pt0 = l.getD j pt0 := by rw [List.getD_eq_getElem?_getD, List.getD_eq_getElem?_getD, List.getElem?_take_of_lt (by omega)]
  have e2 : (l.take k).take j = l.take j := by rw [List.take_take, Nat.min_eq_left (by omega)]
  rw [e1, e2]; exact hs
theorem plLs_mid (xs : List UInt8) (n : Int) : ptMid (plLs xs 0 n) ∧ (plLs xs 0 n).length ≤ 9 := by
  have hcb := dcC_bd xs 0 (by omega)
  have hg := plK_good xs hcb.2 ((lnV xs 0).q + 1 + 1) (plN xs 0)
  have hq := plK_q xs (dcC xs 0) ((lnV xs 0).q + 1 + 1) (plN xs 0)
  have hlq := lnV_q xs 0 (by omega)
  have hn : plN xs 0 ≤ 6 := by
    have := pickV_lt xs ((lnV xs 0).q + 1) 7 (by omega)
    have := pickV_nonneg xs ((lnV xs 0).q + 1) 7 (by omega)
    rw [plN]; omega
  have heb := oneIf_le n
  have hm : ptMid (plL (plS xs 0)) ∧ (plL (plS xs 0)).length ≤ 4 := plGood.mid hg
  have hsq : (plS xs 0).q ≤ 700 := by
    have : (plS xs 0).q = (plK xs (dcC xs 0) ((lnV xs 0).q + 1 + 1) (plN xs 0)).q := rfl
    omega
  have hs0 : 0 ≤ (plS xs 0).q := by
    have : (plS xs 0).q = (plK xs (dcC xs 0) ((lnV xs 0).q + 1 + 1) (plN xs 0)).q := rfl
    omega
  have hd := dpV_bd xs ((plS xs 0).q + oneIf n) 1 (by omega)
  rw [plLs]
  split
  · have hl : (plL (plS xs 0) ++ plL (plS xs 0) ++ [(⟨(plD xs 0 n).ps, (plD xs 0 n).u⟩ : Pt)]).length ≤ 9 := by simp only [List.length_append, List.length_singleton]; omega
    refine ⟨⟨by omega, fun x hx => ?_⟩, hl⟩
    rcases List.mem_append.1 hx with hx | hx
    · rcases List.mem_append.1 hx with hx | hx
      · exact hm.1.2 x hx
      · exact hm.1.2 x hx
    · rw [List.mem_singleton.1 hx]
      show pMid (dpV xs ((plS xs 0).q + oneIf n) 1).ps
      exact ⟨by omega, fun y hy => by have := hd.2.2 y hy; omega⟩
  · exact ⟨hm.1, by omega⟩
def g_drawPo : PC := fun args => match args with
  | [.l _ rows] => some (∃ xs, rows = rowsOfBytes xs, .l 2 (ptRows (plLs ((bytesOfRows rows).take 2000) 0 2)), [])
  | _ => none
def kdp : List (FuncId × Abs) := [(31, ownAbs g_open), (61, ownAbs g_lparts)]
theorem kdp_ok : ∀ p ∈ kdp, CallOk Try.prog p.1 p.2 := by
  intro p hp
  simp only [kdp, List.mem_cons, List.not_mem_nil, or_false] at hp
  rcases hp with rfl | rfl
  · exact open_ok.call
  · exact l20Parts_ok.call
set_option maxHeartbeats 8000000 in
set_option maxRecDepth 100000 in
theorem drawPartsOk_ok : OwnOk Try.prog 23 (ocOf g_drawPo) := by
  refine OwnOk.of_vcD (G := kdp) kdp_ok mixed Try.func23 (by kernel_rfl) rfl ?_
  intro args cnd r bs hg hc
  unfold g_drawPo at hg
  split at hg
  · rename_i sz rows
    cases hg
    obtain ⟨xs, rfl⟩ := hc
    rw [bytesOf_rows]
    refine ⟨⟨rfl, by simp [AV.ids, AV.ids.idsL]⟩, [.l 1 (rowsOfBytes xs)], rfl, fun w Z s vs h => CvL.ok (.cons (.l _ _ _ (rowsOf_w xs)) .nil) h, ?_⟩
    obtain ⟨ys, hys⟩ : ∃ ys, ys = List.take 2000 xs := ⟨_, rfl⟩
    rw [← hys]
    have hyl : ys.length ≤ 2000 := by rw [hys, List.length_take]; omega
    have hx : (∃ zs, rowsOfBytes ys = rowsOfBytes zs ∧ zs.length ≤ 2000) = True := eq_true ⟨_, rfl, hyl⟩
    simp (maxSteps := 3000000) only [Try.f23, kdp, g_open, g_lparts, bytesOf_rows, rowsOf_len, ← hys, hx, D.toI, D.toL, ↓reduceIte, Bool.false_eq_true, tYs, evL, implies_true, oMin, oCopy, oBin, oUn, oLoadKid, oStoreTree, oField, oExtract, oNil, oSliceQ, oLen, nodupB, treeOf, kidAbs, kidRows, TK.isCell, D.toL, oLoad, oStore, oMake, oIndexAddr, ↓reduceIte, reduceCtorEq, Nat.reduceBEq, Nat.reduceAdd, Nat.reduceMul, Nat.reduceLT, Nat.reduceSub, Nat.reduceLeDiff, Nat.reduceEqDiff, Nat.reduceBneDiff, Int.reduceToNat, decide_eq_true_eq, decide_eq_false_iff_not, beq_iff_eq, Int.toNat_natCast, doneD_ret, doneD_normal]
    exact ⟨⟨_, rfl⟩, ⟨by omega, by omega, by omega, by omega⟩, _, rfl, rfl⟩
  · cases hg
def lpo2 : List (FuncId × Abs) := [(12, pureAbs g_alive), (24, pureAbs g_partsOk), (25, pureAbs g_partsOk), (23, ownAbs (ocOf g_drawPo))]
theorem lpo2_ok : ∀ p ∈ lpo2, CallOk Try.prog p.1 p.2 := by
  intro p hp
  simp only [lpo2, List.mem_cons, List.not_mem_nil, or_false] at hp
  rcases hp with rfl | rfl | rfl | rfl
  · exact alive_ok.call
  · exact implPartsOk_ok.call
  · exact specPartsOk_ok.call
  · exact drawPartsOk_ok.call
set_option maxHeartbeats 8000000 in
set_option maxRecDepth 100000 in
theorem lawPartsOk_ok : PureOk Try.prog 6 g_true := by
  refine PureOk.of_vc (G := lpo2) lpo2_ok mixed Try.func6 (by kernel_rfl) rfl ?_
  intro args cnd r bs hg hc
  unfold g_true at hg
  split at hg
  · rename_i sz rows
    cases hg
    obtain ⟨xs, rfl⟩ := hc
    refine ⟨⟨rfl, by simp, by simp [AV.ids, AV.ids.idsL]⟩, [.l 1 (rowsOfBytes xs)], rfl, fun w vs h => CvL.ok (.cons (.l _ _ _ (rowsOf_w xs)) .nil) h, ?_⟩
    obtain ⟨ys, hys⟩ : ∃ ys, ys = List.take 2000 xs := ⟨_, rfl⟩
    by_cases h20 : (xs.length : Int) > 1048576
    · have e20 : ((xs.length : Int) > 1048576) = True := eq_true h20
      simp (maxSteps := 3000000) only [Try.f6, lpo2, e20, g_alive, g_partsOk, ocOf, g_drawPo, bytesOf_rows, rowsOf_len, ↓reduceIte, Bool.false_eq_true, D.toI, D.toL, tYs, evL, implies_true, oMin, oCopy, oBin, oUn, oLoadKid, oStoreTree, oField, oExtract, oNil, oSliceQ, oLen, nodupB, treeOf, kidAbs, kidRows, TK.isCell, D.toL, oLoad, oStore, oMake, oIndexAddr, ↓reduceIte, reduceCtorEq, Nat.reduceBEq, Nat.reduceAdd, Nat.reduceMul, Nat.reduceLT, Nat.reduceSub, Nat.reduceLeDiff, Nat.reduceEqDiff, Nat.reduceBneDiff, Int.reduceToNat, decide_eq_true_eq, decide_eq_false_iff_not, beq_iff_eq, Int.toNat_natCast, loopK_normal, loopK_exit, loopK_ret, bne_self_eq_false]
      exact ⟨_, [], rfl, ⟨⟨⟨rfl, rfl, rfl⟩, trivial⟩, trivial, by simp [rn, hpAt]⟩⟩
    have e20 : ((xs.length : Int) > 1048576) = False := eq_false h20
    obtain ⟨hmid, hl9⟩ := plLs_mid ys 2
    obtain ⟨L, hL⟩ : ∃ L, L = plLs ys 0 2 := ⟨_, rfl⟩
    have hL' := hL.symm
    rw [hL'] at hmid hl9
    clear hL
    have hnil : ptsOf [] = [] := rfl
    have e7 : ptsB [] = true := rfl
    have m0 : ptMid [] := ⟨by decide, fun x hx => (by cases hx)⟩
    rcases hok : ptsB L with _ | _
    · simp (maxSteps := 3000000) only [Try.f6, lpo2, e20, ← hys, hL', hnil, e7, ptsOf_rows, ptRows_len, hok, g_alive, g_partsOk, ocOf, g_drawPo, bytesOf_rows, rowsOf_len, ↓reduceIte, Bool.false_eq_true, D.toI, D.toL, tYs, evL, implies_true, oMin, oCopy, oBin, oUn, oLoadKid, oStoreTree, oField, oExtract, oNil, oSliceQ, oLen, nodupB, treeOf, kidAbs, kidRows, TK.isCell, D.toL, oLoad, oStore, oMake, oIndexAddr, ↓reduceIte, reduceCtorEq, Nat.reduceBEq, Nat.reduceAdd, Nat.reduceMul, Nat.reduceLT, Nat.reduceSub, Nat.reduceLeDiff, Nat.reduceEqDiff, Nat.reduceBneDiff, Int.reduceToNat, decide_eq_true_eq, decide_eq_false_iff_not, beq_iff_eq, Int.toNat_natCast, loopK_normal, loopK_exit, loopK_ret, bne_self_eq_false]
      refine ⟨⟨xs, rfl⟩, ⟨L, rfl, hmid⟩, ⟨L, rfl, hmid⟩, ?_⟩
      refine e_loop _ _ _ _ _ _ _ _ (fun k : Nat => [.any, .any, .any, .l 2 (ptRows L), .v (.bool false), .v (.int .i64 (k : Int))] ++ List.replicate (Try.f6.ntmps - 6) .any) (fun k => []) (fun k => k ≤ L.length) (fun k => L.length - k) 0 (fun k => by simp) ?_ fun k hk' => ?_
      · exact ⟨0, [], Nat.zero_le _, ⟨⟨trivial, trivial, trivial, ⟨rfl, rfl, rfl⟩, ⟨rfl, rfl, rfl⟩, ⟨rfl, rfl, rfl⟩, fitT_rep _ _ rfl⟩, trivial, by simp [rn, hpAt]⟩, by simp [keepIds]⟩
      by_cases hk : k < L.length
      · have c1 : ((k : Int) < (L.length : Int)) = True := eq_true (by omega)
        simp (maxSteps := 3000000) only [Try.f6, lpo2, e20, ← hys, hL', hnil, e7, ptsOf_rows, ptRows_len, hok, c1, g_alive, g_partsOk, ocOf, g_drawPo, bytesOf_rows, rowsOf_len, ↓reduceIte, Bool.false_eq_true, D.toI, D.toL, tYs, evL, implies_true, oMin, oCopy, oBin, oUn, oLoadKid, oStoreTree, oField, oExtract, oNil, oSliceQ, oLen, nodupB, treeOf, kidAbs, kidRows, TK.isCell, D.toL, oLoad, oStore, oMake, oIndexAddr, ↓reduceIte, reduceCtorEq, Nat.reduceBEq, Nat.reduceAdd, Nat.reduceMul, Nat.reduceLT, Nat.reduceSub, Nat.reduceLeDiff, Nat.reduceEqDiff, Nat.reduceBneDiff, Int.reduceToNat, decide_eq_true_eq, decide_eq_false_iff_not, beq_iff_eq, Int.toNat_natCast, loopK_normal, loopK_exit, loopK_ret, bne_self_eq_false]
        refine ⟨⟨[], rfl, m0⟩, ?_⟩
        exact ⟨_, [], rfl, ⟨⟨⟨rfl, rfl, rfl⟩, trivial⟩, trivial, by simp [rn, hpAt]⟩⟩
      · have c1 : ((k : Int) < (L.length : Int)) = False := eq_false (by omega)
        simp (maxSteps := 3000000) only [Try.f6, lpo2, e20, ← hys, hL', hnil, e7, ptsOf_rows, ptRows_len, hok, c1, g_alive, g_partsOk, ocOf, g_drawPo, bytesOf_rows, rowsOf_len, ↓reduceIte, Bool.false_eq_true, D.toI, D.toL, tYs, evL, implies_true, oMin, oCopy, oBin, oUn, oLoadKid, oStoreTree, oField, oExtract, oNil, oSliceQ, oLen, nodupB, treeOf, kidAbs, kidRows, TK.isCell, D.toL, oLoad, oStore, oMake, oIndexAddr, ↓reduceIte, reduceCtorEq, Nat.reduceBEq, Nat.reduceAdd, Nat.reduceMul, Nat.reduceLT, Nat.reduceSub, Nat.reduceLeDiff, Nat.reduceEqDiff, Nat.reduceBneDiff, Int.reduceToNat, decide_eq_true_eq, decide_eq_false_iff_not, beq_iff_eq, Int.toNat_natCast, loopK_normal, loopK_exit, loopK_ret, bne_self_eq_false]
        refine ⟨⟨[], rfl, m0⟩, ?_⟩
        exact ⟨_, [], rfl, ⟨⟨⟨rfl, rfl, rfl⟩, trivial⟩, trivial, by simp [rn, hpAt]⟩⟩
    · simp (maxSteps := 3000000) only [Try.f6, lpo2, e20, ← hys, hL', hnil, e7, ptsOf_rows, ptRows_len, hok, g_alive, g_partsOk, ocOf, g_drawPo, bytesOf_rows, rowsOf_len, ↓reduceIte, Bool.false_eq_true, D.toI, D.toL, tYs, evL, implies_true, oMin, oCopy, oBin, oUn, oLoadKid, oStoreTree, oField, oExtract, oNil, oSliceQ, oLen, nodupB, treeOf, kidAbs, kidRows, TK.isCell, D.toL, oLoad, oStore, oMake, oIndexAddr, ↓reduceIte, reduceCtorEq, Nat.reduceBEq, Nat.reduceAdd, Nat.reduceMul, Nat.reduceLT, Nat.reduceSub, Nat.reduceLeDiff, Nat.reduceEqDiff, Nat.reduceBneDiff, Int.reduceToNat, decide_eq_true_eq, decide_eq_false_iff_not, beq_iff_eq, Int.toNat_natCast, loopK_normal, loopK_exit, loopK_ret, bne_self_eq_false]
      refine ⟨⟨xs, rfl⟩, ⟨L, rfl, hmid⟩, ⟨L, rfl, hmid⟩, ?_⟩
      refine e_loop _ _ _ _ _ _ _ _ (fun k : Nat => [.any, .any, .any, .l 2 (ptRows L), .v (.bool true), .v (.int .i64 (k : Int))] ++ List.replicate (Try.f6.ntmps - 6) .any) (fun k => []) (fun k => k ≤ L.length) (fun k => L.length - k) 0 (fun k => by simp) ?_ fun k hk' => ?_
      · exact ⟨0, [], Nat.zero_le _, ⟨⟨trivial, trivial, trivial, ⟨rfl, rfl, rfl⟩, ⟨rfl, rfl, rfl⟩, ⟨rfl, rfl, rfl⟩, fitT_rep _ _ rfl⟩, trivial, by simp [rn, hpAt]⟩, by simp [keepIds]⟩
      have w2 : IntKind.i64.wrap ((k : Int) + 1) = ((k + 1 : Nat) : Int) := wrap_id (by omega) (by omega)
      by_cases hk : k < L.length
      · have c1 : ((k : Int) < (L.length : Int)) = True := eq_true (by omega)
        have ht := ptsB_take hok k
        have ht2 : (ptRows L).take k = ptRows (L.take k) := by simp [ptRows, List.map_take]
        have hkm : ptMid (L.take k) := ⟨by rw [List.length_take]; omega, fun x hx => hmid.2 x (List.mem_of_mem_take hx)⟩
        simp (maxSteps := 3000000) only [Try.f6, lpo2, e20, ← hys, hL', hnil, e7, ptsOf_rows, ptRows_len, hok, c1, w2, ht2, ht, List.nil_append, g_alive, g_partsOk, ocOf, g_drawPo, bytesOf_rows, rowsOf_len, ↓reduceIte, Bool.false_eq_true, D.toI, D.toL, tYs, evL, implies_true, oMin, oCopy, oBin, oUn, oLoadKid, oStoreTree, oField, oExtract, oNil, oSliceQ, oLen, nodupB, treeOf, kidAbs, kidRows, TK.isCell, D.toL, oLoad, oStore, oMake, oIndexAddr, ↓reduceIte, reduceCtorEq, Nat.reduceBEq, Nat.reduceAdd, Nat.reduceMul, Nat.reduceLT, Nat.reduceSub, Nat.reduceLeDiff, Nat.reduceEqDiff, Nat.reduceBneDiff, Int.reduceToNat, decide_eq_true_eq, decide_eq_false_iff_not, beq_iff_eq, Int.toNat_natCast, loopK_normal, loopK_exit, loopK_ret, bne_self_eq_false]
        have htl : (List.take k L).length ≤ 9 := by rw [List.length_take]; omega
        exact ⟨⟨by omega, by omega⟩, ⟨by omega, by omega, ptRows_w _⟩, ⟨_, rfl, hkm⟩, k + 1, [], by omega, by omega, ⟨⟨trivial, trivial, trivial, ⟨rfl, rfl, rfl⟩, ⟨rfl, rfl, rfl⟩, ⟨rfl, rfl, rfl⟩, fitT_rep _ _ rfl⟩, trivial, by simp [rn, hpAt]⟩, by simp [keepIds]⟩
      · have c1 : ((k : Int) < (L.length : Int)) = False := eq_false (by omega)
        simp (maxSteps := 3000000) only [Try.f6, lpo2, e20, ← hys, hL', hnil, e7, ptsOf_rows, ptRows_len, hok, c1, w2, g_alive, g_partsOk, ocOf, g_drawPo, bytesOf_rows, rowsOf_len, ↓reduceIte, Bool.false_eq_true, D.toI, D.toL, tYs, evL, implies_true, oMin, oCopy, oBin, oUn, oLoadKid, oStoreTree, oField, oExtract, oNil, oSliceQ, oLen, nodupB, treeOf, kidAbs, kidRows, TK.isCell, D.toL, oLoad, oStore, oMake, oIndexAddr, ↓reduceIte, reduceCtorEq, Nat.reduceBEq, Nat.reduceAdd, Nat.reduceMul, Nat.reduceLT, Nat.reduceSub, Nat.reduceLeDiff, Nat.reduceEqDiff, Nat.reduceBneDiff, Int.reduceToNat, decide_eq_true_eq, decide_eq_false_iff_not, beq_iff_eq, Int.toNat_natCast, loopK_normal, loopK_exit, loopK_ret, bne_self_eq_false]
        refine ⟨⟨[], rfl, m0⟩, ?_⟩
        exact ⟨_, [], rfl, ⟨⟨⟨rfl, rfl, rfl⟩, trivial⟩, trivial, by simp [rn, hpAt]⟩⟩
  · cases hg
theorem walk_PartsOk (A : Option Addr) (n c : Nat) (xs : List UInt8) (w : World) (h : Rd w w.heap.size A n (bv xs)) (hc : n ≤ c) :
    Calls Try.prog 6 #[.slice A n c] w fun e w' => e = .returned (.bool true) ∧ Below w.heap.size w w' :=
  lawPartsOk_ok.walk (vs := [_]) (arel_cons (.l _ _ _ (rep_of_rd h hc)) arel_nil) rfl ⟨xs, rfl⟩
end Go.Proofs.Ytmhmhgegdagjkaa
