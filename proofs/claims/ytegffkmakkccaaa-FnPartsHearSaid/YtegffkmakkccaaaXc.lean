import Derived.Test.YtegffkmakkccaaaXb
namespace Go.Proofs.Ytegffkmakkccaaa
open Go.RowKit
set_option linter.unusedSimpArgs false
set_option linter.unusedVariables false
def zK (ps : List Pk) (k : Nat) : Int := if k = 0 then 0 else (ps.getD (k - 1) pk0).z
def moreK (ps : List Pk) (k : Nat) : Bool := if k = 0 then true else (ps.getD (k - 1) pk0).m
def reachK (ps : List Pk) (k : Nat) : Bool := (List.range k).all fun j => (ps.getD j pk0).a == zK ps j
def reachB (ps : List Pk) : Bool := reachK ps ps.length && !(moreK ps ps.length)
def joinD (ps : List Pk) : List UInt8 := ps.flatMap fun x => x.d
def wholeB (ps : List Pk) (u : Int) : Bool := partB ps u && reachB ps
def wholeV (ps : List Pk) (u : Int) : Pk := if wholeB ps u = true then { ps.getD 0 pk0 with m := false, d := joinD ps } else pk0
def haveB (ps : List Pk) (q : Pk) : Bool := ps.any fun x => decide (x.a = q.a) && (x.m == q.m) && decide (x.d = q.d)
theorem reachK_succ (ps : List Pk) (k : Nat) : reachK ps (k + 1) = (reachK ps k && ((ps.getD k pk0).a == zK ps k)) := by simp [reachK, List.range_succ]
theorem reachK_no {ps : List Pk} {k : Nat} (hk : k < ps.length) (h : ((ps.getD k pk0).a == zK ps k) = false) : reachB ps = false := by
  have : reachK ps ps.length = false := by
    rw [Bool.eq_false_iff]
    intro hn
    have := List.all_eq_true.1 hn k (List.mem_range.2 hk)
    rw [h] at this
    cases this
  rw [reachB, this]; rfl
theorem joinD_take {ps : List Pk} {k : Nat} (h : k < ps.length) : joinD (ps.take (k + 1)) = joinD (ps.take k) ++ ps[k].d := by
  rw [List.take_add_one, List.getElem?_eq_getElem h, joinD, joinD, List.flatMap_append]; simp
theorem joinD_len (ps : List Pk) : (joinD ps).length = sumN ps := by
  induction ps with
  | nil => rfl
  | cons x ps ih => simp only [joinD, sumN, List.flatMap_cons, List.length_append, List.map_cons, List.sum_cons] at ih ⊢; omega
theorem partB_all {ps : List Pk} {u : Int} (h : partB ps u = true) : (∀ x ∈ ps, x.ok = true) ∧ sumN ps ≤ 48 ∧ 0 < ps.length ∧ 0 ≤ u ∧ u ≤ 1000000 := by
  simp only [partB, piecesB, Bool.and_eq_true, decide_eq_true_eq] at h
  obtain ⟨⟨⟨h1, h2⟩, h3⟩, h4⟩ := h
  refine ⟨fun x hx => ?_, h2, h3, h4⟩
  obtain ⟨k, hk, rfl⟩ := List.getElem_of_mem hx
  exact step_ok (oksK_at h1 hk) hk
def pts : List (FuncId × Abs) := [(117, pureAbs g_piecesOk), (118, pureAbs g_isTime)]
theorem pts_ok : ∀ p ∈ pts, CallOk Try.prog p.1 p.2 := by
  intro p hp
  simp only [pts, List.mem_cons, List.not_mem_nil, or_false] at hp
  rcases hp with rfl | rfl
  · exact piecesOk_ok.call
  · exact isTime_ok.call
set_option maxRecDepth 100000 in
theorem implPartOk_ok : PureOk Try.prog 53 g_partOk := by
  refine PureOk.of_vc (G := pts) pts_ok mixed Try.func53 (by kernel_rfl) rfl ?_
  intro args cnd r bs hg hc
  unfold g_partOk at hg
  split at hg
  · rename_i sz rows u
    cases hg
    obtain ⟨ps, rfl, hm⟩ := hc
    rw [psOf_rows]
    refine ⟨⟨rfl, by simp, by simp [AV.ids, AV.ids.idsL]⟩, [.agg [.l 9 (pRows ps), .v (.int .i64 u)]], rfl, fun w vs h => CvL.ok (.cons (.cons (.l _ _ _ (pRows_w ps)) (.cons (.refl _) .nil)) .nil) h, ?_⟩
    simp (maxSteps := 3000000) only [Try.f53, pts, g_piecesOk, g_isTime, psOf_rows, tYs, evL, implies_true, oMin, oCopy, oBin, oUn, oLoadKid, oStoreTree, oField, oExtract, oNil, oSliceQ, oLoadRow, takeCells, TS.atRow, TS.ex, treeMode, AV.isOwn, TK.isSl, nilTk, nilsB, oLenQ, oLen, nodupB, treeOf, kidAbs, kidRows, TK.isCell, D.toL, oLoad, oStore, oMake, oIndexAddr, ↓reduceIte, reduceCtorEq, Nat.reduceBEq, Nat.reduceAdd, Nat.reduceMul, Nat.reduceLT, Nat.reduceSub, Nat.reduceLeDiff, Nat.reduceEqDiff, Nat.reduceBneDiff, Int.reduceToNat, decide_eq_true_eq, decide_eq_false_iff_not, beq_iff_eq, Int.toNat_natCast]
    by_cases h : piecesB ps = true
    · rw [h]
      refine ⟨⟨_, rfl, hm⟩, ?_⟩
      rw [if_pos rfl, partB, h]
      exact ⟨_, [], rfl, ⟨⟨⟨rfl, rfl, rfl⟩, trivial⟩, trivial, by simp [rn, hpAt]⟩⟩
    · rw [Bool.eq_false_iff.2 h]
      refine ⟨⟨_, rfl, hm⟩, ?_⟩
      rw [if_neg (by simp), partB, Bool.eq_false_iff.2 h]
      exact ⟨_, [], rfl, ⟨⟨⟨rfl, rfl, rfl⟩, trivial⟩, trivial, by simp [rn, hpAt]⟩⟩
  · cases hg
def g_reach : PC := fun args => match args with
  | [.l _ rows] => some (∃ ps, rows = pRows ps ∧ ps.length ≤ 1048576 ∧ ∀ x ∈ ps, x.ok = true, .v (.bool (reachB (psOf rows))), [])
  | _ => none
def g_joinD : PC := fun args => match args with
  | [.l _ rows] => some (∃ ps, rows = pRows ps ∧ ps.length ≤ 1048576 ∧ sumN ps ≤ 1048576, .own 0, [.sl 5 1 (rowsOfBytes (joinD (psOf rows)))])
  | _ => none
def pre : List (FuncId × Abs) := [(169, pureAbs g_pieceEnd)]
theorem pre_ok : ∀ p ∈ pre, CallOk Try.prog p.1 p.2 := by
  intro p hp
  simp only [pre, List.mem_cons, List.not_mem_nil, or_false] at hp
  rcases hp with rfl
  · exact pieceEnd_ok.call
set_option maxRecDepth 100000 in
theorem reach_ok : PureOk Try.prog 157 g_reach := by
  refine PureOk.of_vc (G := pre) pre_ok mixed Try.func157 (by kernel_rfl) rfl ?_
  intro args cnd r bs hg hc
  unfold g_reach at hg
  split at hg
  · rename_i sz rows
    cases hg
    obtain ⟨ps, rfl, hn, hd⟩ := hc
    rw [psOf_rows]
    refine ⟨⟨rfl, by simp, by simp [AV.ids, AV.ids.idsL]⟩, [.l 9 (pRows ps)], rfl, fun w vs h => CvL.ok (.cons (.l _ _ _ (pRows_w ps)) .nil) h, ?_⟩
    simp (maxSteps := 3000000) only [Try.f157, pre, pRows_len, tYs, evL, implies_true, oMin, oCopy, oBin, oUn, oLoadKid, oStoreTree, oField, oExtract, oNil, oSliceQ, oLoadRow, takeCells, TS.atRow, TS.ex, treeMode, AV.isOwn, TK.isSl, nilTk, nilsB, oLenQ, oLen, nodupB, treeOf, kidAbs, kidRows, TK.isCell, D.toL, oLoad, oStore, oMake, oIndexAddr, ↓reduceIte, reduceCtorEq, Nat.reduceBEq, Nat.reduceAdd, Nat.reduceMul, Nat.reduceLT, Nat.reduceSub, Nat.reduceLeDiff, Nat.reduceEqDiff, Nat.reduceBneDiff, Int.reduceToNat, decide_eq_true_eq, decide_eq_false_iff_not, beq_iff_eq, Int.toNat_natCast]
    refine e_loop _ _ _ _ _ _ _ _ (fun k : Nat => [.any, .any, .any, .v (.int .i64 (zK ps k)), .v (.bool (moreK ps k)), .any, .any, .l 9 (pRows ps), .v (.int .i64 (ps.length : Int)), .v (.int .i64 (k : Int))] ++ List.replicate (Try.f157.ntmps - 10) .any) (fun k => []) (fun k => k ≤ ps.length ∧ reachK ps k = true) (fun k => ps.length - k) 0 (fun k => by simp) ?_ fun k hk' => ?_
    · exact ⟨0, [], ⟨Nat.zero_le _, rfl⟩, ⟨⟨trivial, trivial, trivial, ⟨rfl, rfl, rfl⟩, ⟨rfl, rfl, rfl⟩, trivial, trivial, ⟨rfl, rfl, rfl⟩, ⟨rfl, rfl, rfl⟩, ⟨rfl, rfl, rfl⟩, fitT_rep _ _ rfl⟩, trivial, by simp [rn, hpAt]⟩, by simp [keepIds]⟩
    obtain ⟨hk1, hk2⟩ := hk'
    have w2 : IntKind.i64.wrap ((k : Int) + 1) = ((k + 1 : Nat) : Int) := by rw [wrap_id] <;> omega
    by_cases h : k < ps.length
    · have hrow := pRows_get ps k h
      have hlt : ((k : Int) < (ps.length : Int)) = True := eq_true (by omega)
      have h0 : (0 ≤ (k : Int)) = True := eq_true (by omega)
      have hx := ok_rng (hd ps[k] (List.getElem_mem h))
      have hz : zK ps (k + 1) = ps[k].a + (ps[k].d.length : Int) := by rw [zK, if_neg (by omega), Nat.add_sub_cancel, pk_get h]; rfl
      have hmo : moreK ps (k + 1) = ps[k].m := by rw [moreK, if_neg (by omega), Nat.add_sub_cancel, pk_get h]
      simp (maxSteps := 3000000) only [Try.f157, pre, pRows_len, rowsOf_len, bytesOf_rows, g_pieceEnd, hrow, hlt, h0, ← hz, ← hmo, D.toI, dB, D.toB, D.toL, pRow, tYs, evL, implies_true, oMin, oCopy, oBin, oUn, oLoadKid, oStoreTree, oField, oExtract, oNil, oSliceQ, oLoadRow, takeCells, TS.atRow, TS.ex, treeMode, AV.isOwn, TK.isSl, nilTk, nilsB, oLenQ, oLen, nodupB, treeOf, kidAbs, kidRows, TK.isCell, D.toL, oLoad, oStore, oMake, oIndexAddr, ↓reduceIte, reduceCtorEq, Nat.reduceBEq, Nat.reduceAdd, Nat.reduceMul, Nat.reduceLT, Nat.reduceSub, Nat.reduceLeDiff, Nat.reduceEqDiff, Nat.reduceBneDiff, Int.reduceToNat, decide_eq_true_eq, decide_eq_false_iff_not, beq_iff_eq, Int.toNat_natCast, loopK_normal, loopK_exit, loopK_ret, w2]
      by_cases e : ps[k].a = zK ps k
      · have hs : reachK ps (k + 1) = true := by rw [reachK_succ, hk2, pk_get h, e]; simp
        rw [if_neg (by simp [e])]
        exact ⟨⟨⟨by omega, by omega⟩, by omega⟩, k + 1, [], ⟨by omega, hs⟩, by omega, ⟨⟨trivial, trivial, trivial, ⟨rfl, rfl, rfl⟩, ⟨rfl, rfl, rfl⟩, trivial, trivial, ⟨rfl, rfl, rfl⟩, ⟨rfl, rfl, rfl⟩, ⟨rfl, rfl, rfl⟩, fitT_rep _ _ rfl⟩, trivial, by simp [rn, hpAt]⟩, by simp [keepIds]⟩
      · rw [if_pos (by simp [e]), reachK_no h (by rw [pk_get h]; simpa using e)]
        exact ⟨_, [], rfl, ⟨⟨⟨rfl, rfl, rfl⟩, trivial⟩, trivial, by simp [rn, hpAt]⟩⟩
    · have hlt : ((k : Int) < (ps.length : Int)) = False := eq_false (by omega)
      simp (maxSteps := 3000000) only [Try.f157, pre, pRows_len, rowsOf_len, bytesOf_rows, hlt, D.toI, dB, D.toB, D.toL, pRow, tYs, evL, implies_true, oMin, oCopy, oBin, oUn, oLoadKid, oStoreTree, oField, oExtract, oNil, oSliceQ, oLoadRow, takeCells, TS.atRow, TS.ex, treeMode, AV.isOwn, TK.isSl, nilTk, nilsB, oLenQ, oLen, nodupB, treeOf, kidAbs, kidRows, TK.isCell, D.toL, oLoad, oStore, oMake, oIndexAddr, ↓reduceIte, reduceCtorEq, Nat.reduceBEq, Nat.reduceAdd, Nat.reduceMul, Nat.reduceLT, Nat.reduceSub, Nat.reduceLeDiff, Nat.reduceEqDiff, Nat.reduceBneDiff, Int.reduceToNat, decide_eq_true_eq, decide_eq_false_iff_not, beq_iff_eq, Int.toNat_natCast, loopK_normal, loopK_exit, loopK_ret, w2]
      obtain rfl : k = ps.length := by omega
      rw [reachB, hk2, Bool.true_and]
      exact ⟨_, [], rfl, ⟨⟨⟨rfl, rfl, rfl⟩, trivial⟩, trivial, by simp [rn, hpAt]⟩⟩
  · cases hg
set_option maxRecDepth 100000 in
theorem joinD_ok : PureOk Try.prog 158 g_joinD := by
  refine PureOk.of_vc (G := []) (by simp) mixed Try.func158 (by kernel_rfl) rfl ?_
  intro args cnd r bs hg hc
  unfold g_joinD at hg
  split at hg
  · rename_i sz rows
    cases hg
    obtain ⟨ps, rfl, hn, hd⟩ := hc
    rw [psOf_rows]
    refine ⟨⟨rfl, by simpa [flatB] using rowsOf_flat _, by simp [AV.ids, AV.ids.idsL]⟩, [.l 9 (pRows ps)], rfl, fun w vs h => CvL.ok (.cons (.l _ _ _ (pRows_w ps)) .nil) h, ?_⟩
    simp (maxSteps := 3000000) only [Try.f158, pRows_len, tYs, evL, implies_true, oMin, oCopy, oBin, oUn, oLoadKid, oStoreTree, oField, oExtract, oNil, oSliceQ, oLoadRow, takeCells, TS.atRow, TS.ex, treeMode, AV.isOwn, TK.isSl, nilTk, nilsB, oLenQ, oLen, nodupB, treeOf, kidAbs, kidRows, TK.isCell, D.toL, oLoad, oStore, oMake, oIndexAddr, ↓reduceIte, reduceCtorEq, Nat.reduceBEq, Nat.reduceAdd, Nat.reduceMul, Nat.reduceLT, Nat.reduceSub, Nat.reduceLeDiff, Nat.reduceEqDiff, Nat.reduceBneDiff, Int.reduceToNat, decide_eq_true_eq, decide_eq_false_iff_not, beq_iff_eq, Int.toNat_natCast]
    refine ⟨by omega, ?_⟩
    refine e_loop _ _ _ _ _ _ _ _ (fun k : Nat => [.any, .any, .any, .own 0, .any, .any, .any, .l 9 (pRows ps), .v (.int .i64 (ps.length : Int)), .v (.int .i64 (k : Int))] ++ List.replicate (Try.f158.ntmps - 10) .any) (fun k => [(0, .sl 5 1 (rowsOfBytes (joinD (ps.take k))))]) (fun k => k ≤ ps.length) (fun k => ps.length - k) 1 (fun k => by simp) ?_ fun k hk' => ?_
    · exact ⟨0, [(0, some _)], Nat.zero_le _, ⟨⟨trivial, trivial, trivial, ⟨rfl, rfl, rfl⟩, trivial, trivial, trivial, ⟨rfl, rfl, rfl⟩, ⟨rfl, rfl, rfl⟩, ⟨rfl, rfl, rfl⟩, fitT_rep _ _ rfl⟩, ⟨.inl rfl, rfl, rfl, rfl, trivial⟩, by simp [rn, hpAt]⟩, by simp [keepIds]⟩
    have w2 : IntKind.i64.wrap ((k : Int) + 1) = ((k + 1 : Nat) : Int) := by rw [wrap_id] <;> omega
    by_cases h : k < ps.length
    · have hrow := pRows_get ps k h
      have hlt : ((k : Int) < (ps.length : Int)) = True := eq_true (by omega)
      have h0 : (0 ≤ (k : Int)) = True := eq_true (by omega)
      have hs := sumN_le ps (k + 1)
      have hjl : (joinD (ps.take k)).length + ps[k].d.length ≤ 1048576 := by rw [sumN_take h] at hs; rw [joinD_len]; omega
      have hj : rowsOfBytes (joinD (ps.take k)) ++ rowsOfBytes ps[k].d = rowsOfBytes (joinD (ps.take (k + 1))) := by rw [rowsOf_app, joinD_take h]
      simp (maxSteps := 3000000) only [Try.f158, pRows_len, rowsOf_len, hrow, hlt, h0, hj, D.toI, dB, D.toB, D.toL, pRow, tYs, evL, implies_true, oMin, oCopy, oBin, oUn, oLoadKid, oStoreTree, oField, oExtract, oNil, oSliceQ, oLoadRow, takeCells, TS.atRow, TS.ex, treeMode, AV.isOwn, TK.isSl, nilTk, nilsB, oLenQ, oLen, nodupB, treeOf, kidAbs, kidRows, TK.isCell, D.toL, oLoad, oStore, oMake, oIndexAddr, ↓reduceIte, reduceCtorEq, Nat.reduceBEq, Nat.reduceAdd, Nat.reduceMul, Nat.reduceLT, Nat.reduceSub, Nat.reduceLeDiff, Nat.reduceEqDiff, Nat.reduceBneDiff, Int.reduceToNat, decide_eq_true_eq, decide_eq_false_iff_not, beq_iff_eq, Int.toNat_natCast, loopK_normal, loopK_exit, loopK_ret, w2]
      exact ⟨⟨by omega, by omega, rowsOf_w _⟩, k + 1, [(0, some _)], by omega, by omega, ⟨⟨trivial, trivial, trivial, ⟨rfl, rfl, rfl⟩, trivial, trivial, trivial, ⟨rfl, rfl, rfl⟩, ⟨rfl, rfl, rfl⟩, ⟨rfl, rfl, rfl⟩, fitT_rep _ _ rfl⟩, ⟨.inl rfl, rfl, rfl, rfl, trivial⟩, by simp [rn, hpAt]⟩, by simp [keepIds]⟩
    · have hlt : ((k : Int) < (ps.length : Int)) = False := eq_false (by omega)
      simp (maxSteps := 3000000) only [Try.f158, pRows_len, rowsOf_len, hlt, D.toI, D.toL, tYs, evL, implies_true, oMin, oCopy, oBin, oUn, oLoadKid, oStoreTree, oField, oExtract, oNil, oSliceQ, oLoadRow, takeCells, TS.atRow, TS.ex, treeMode, AV.isOwn, TK.isSl, nilTk, nilsB, oLenQ, oLen, nodupB, treeOf, kidAbs, kidRows, TK.isCell, D.toL, oLoad, oStore, oMake, oIndexAddr, ↓reduceIte, reduceCtorEq, Nat.reduceBEq, Nat.reduceAdd, Nat.reduceMul, Nat.reduceLT, Nat.reduceSub, Nat.reduceLeDiff, Nat.reduceEqDiff, Nat.reduceBneDiff, Int.reduceToNat, decide_eq_true_eq, decide_eq_false_iff_not, beq_iff_eq, Int.toNat_natCast, loopK_normal, loopK_exit, loopK_ret, w2]
      obtain rfl : k = ps.length := by omega
      rw [List.take_length]
      exact ⟨_, [(0, some _)], rfl, ⟨⟨⟨rfl, rfl, rfl⟩, trivial⟩, ⟨.inl rfl, rfl, rfl, rfl, trivial⟩, by simp [rn, hpAt]⟩⟩
  · cases hg
end Go.Proofs.Ytegffkmakkccaaa
