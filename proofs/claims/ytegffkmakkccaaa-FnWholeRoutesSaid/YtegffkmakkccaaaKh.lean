import Derived.Test.YtegffkmakkccaaaKg
set_option linter.unusedVariables false
set_option linter.unusedSimpArgs false
namespace Go.Proofs.Ytegffkmakkccaaa
open Go.RowKit
set_option linter.unusedSimpArgs false
def wRow (x : Nat × Pk) : List D := D.v (.int .i64 (x.1 : Int)) :: pRow x.2
def wRows (l : List (Nat × Pk)) : List (List D) := l.map wRow
theorem wRows_len (l : List (Nat × Pk)) : (wRows l).length = l.length := by simp [wRows]
theorem wRows_w (l : List (Nat × Pk)) : ∀ r ∈ wRows l, r.length = 10 := fun r hr => by
  obtain ⟨e, _, rfl⟩ := List.mem_map.1 hr
  rfl
theorem wRows_app (a b : List (Nat × Pk)) : wRows a ++ wRows b = wRows (a ++ b) := by simp [wRows]
def goL (net : List St) (k v : Int) (ps : List Pk) : List (Nat × Pk) := if k = 2 then match seek net v with | none => [] | some n => ps.map fun q => (n, q) else []
def goB (net : List St) (k v : Int) : Bool := decide (k = 2) && (seek net v).isSome
def wG (b : Bool) : Nat := if b = true then 10 else 1
def g_tripWith : OC := fun args B0 => match args, B0 with
  | [.agg [.own r0, .own r1, .v (.int .i64 s)], .agg [.v (.int .i64 k), .v (.int .i64 vv), .own r2]], [.tr .whole e1 s1 c1 A, .tr .whole e2 s2 c2 T, .tr .whole e3 s3 c3 ps] =>
    if k = 1 then some ((r0 = 0 ∧ r1 = 1 ∧ r2 = 2) ∧ (e1 = 29 ∧ s1 = 9 ∧ c1 = [.cell, .cell, .cell, .cell, .cell, .cell, .cell, .cell, .sl 5 1 [.cell]]) ∧ (e2 = 29 ∧ s2 = 9 ∧ c2 = [.cell, .cell, .cell, .cell, .cell, .cell, .cell, .cell, .sl 5 1 [.cell]]) ∧ (e3 = 29 ∧ s3 = 9 ∧ c3 = [.cell, .cell, .cell, .cell, .cell, .cell, .cell, .cell, .sl 5 1 [.cell]]) ∧ A.length + ps.length ≤ 1000000 ∧ 0 ≤ s ∧ s ≤ 1000000, .agg [.own 3, .own 1, .v (.int .i64 (s + 1))], [.dead, .tr .whole 29 9 [.cell, .cell, .cell, .cell, .cell, .cell, .cell, .cell, .sl 5 1 [.cell]] (T), .dead], [.tr .whole 29 9 [.cell, .cell, .cell, .cell, .cell, .cell, .cell, .cell, .sl 5 1 [.cell]] (A ++ ps)])
    else if k = 3 then some ((r0 = 0 ∧ r1 = 1 ∧ r2 = 2) ∧ (e1 = 29 ∧ s1 = 9 ∧ c1 = [.cell, .cell, .cell, .cell, .cell, .cell, .cell, .cell, .sl 5 1 [.cell]]) ∧ (e2 = 29 ∧ s2 = 9 ∧ c2 = [.cell, .cell, .cell, .cell, .cell, .cell, .cell, .cell, .sl 5 1 [.cell]]) ∧ (e3 = 29 ∧ s3 = 9 ∧ c3 = [.cell, .cell, .cell, .cell, .cell, .cell, .cell, .cell, .sl 5 1 [.cell]]) ∧ T.length + ps.length ≤ 1000000 ∧ 0 ≤ s ∧ s ≤ 1000000, .agg [.own 0, .own 3, .v (.int .i64 (s + 1))], [.tr .whole 29 9 [.cell, .cell, .cell, .cell, .cell, .cell, .cell, .cell, .sl 5 1 [.cell]] (A), .dead, .dead], [.tr .whole 29 9 [.cell, .cell, .cell, .cell, .cell, .cell, .cell, .cell, .sl 5 1 [.cell]] (T ++ ps)])
    else some ((r0 = 0 ∧ r1 = 1 ∧ r2 = 2) ∧ (e1 = 29 ∧ s1 = 9 ∧ c1 = [.cell, .cell, .cell, .cell, .cell, .cell, .cell, .cell, .sl 5 1 [.cell]]) ∧ (e2 = 29 ∧ s2 = 9 ∧ c2 = [.cell, .cell, .cell, .cell, .cell, .cell, .cell, .cell, .sl 5 1 [.cell]]) ∧ (e3 = 29 ∧ s3 = 9 ∧ c3 = [.cell, .cell, .cell, .cell, .cell, .cell, .cell, .cell, .sl 5 1 [.cell]]) ∧ 0 ≤ s ∧ s ≤ 1000000, .agg [.own 0, .own 1, .v (.int .i64 (s + 1))], [.tr .whole 29 9 [.cell, .cell, .cell, .cell, .cell, .cell, .cell, .cell, .sl 5 1 [.cell]] (A), .tr .whole 29 9 [.cell, .cell, .cell, .cell, .cell, .cell, .cell, .cell, .sl 5 1 [.cell]] (T), .tr .whole 29 9 [.cell, .cell, .cell, .cell, .cell, .cell, .cell, .cell, .sl 5 1 [.cell]] (ps)], [])
  | _, _ => none
def g_goOn : PC := fun args => match args with
  | [.l _ rn', .agg [.v (.int .i64 k), .v (.int .i64 vv), .l _ rows]] => some ((∃ l, rn' = stRows l ∧ l.length ≤ 1048576) ∧ ∃ ps, rows = pRows ps ∧ ps.length ≤ 1000000, .l (wG (goB (stsOf rn') k vv)) (wRows (goL (stsOf rn') k vv (psOf rows))), [])
  | [.l _ rn', .agg [.v (.int .i64 k), .v (.int .i64 vv), .mute]] => some ((∃ l, rn' = stRows l ∧ l.length ≤ 1048576) ∧ k ≠ 2, .l 1 [], [])
  | _ => none
set_option maxHeartbeats 4000000 in
set_option maxRecDepth 100000 in
theorem tripWith_ok : OwnOk Try.prog 100 g_tripWith := by
  refine OwnOk.of_vcT (G := []) (by simp) mixed Try.func100 (by kernel_rfl) rfl ?_
  intro args B0 cnd r B1 bs hg hc hlive
  unfold g_tripWith at hg
  split at hg
  · rename_i r0 r1 s k vv r2 e1 s1 c1 A e2 s2 c2 T e3 s3 c3 ps
    split at hg
    · rename_i hk
      cases hg
      obtain ⟨⟨rfl, rfl, rfl⟩, ⟨rfl, rfl, rfl⟩, ⟨rfl, rfl, rfl⟩, ⟨rfl, rfl, rfl⟩, hb, hs0, hs1⟩ := hc
      refine ⟨⟨by simp [likeBs, likeB], by simp [Blk.liveB, blkIds, AV.ids.idsL, AV.ids], by simp [AV.ids, AV.ids.idsL]⟩, _, rfl, fun w Z s vs h => h, ?_⟩
      clear hlive
      have w1 : IntKind.i64.wrap (s + 1) = s + 1 := wrap_id (by omega) (by omega)
      have ka : (k = 1) = True := eq_true hk
      have kb : (k == 1) = true := by simp [hk]
      simp (maxSteps := 3000000) only [Try.f100, ka, kb, w1, ↓reduceIte, Bool.false_eq_true, tYs, evL, implies_true, oMin, oCopy, oBin, oUn, oLoadKid, oStoreTree, oField, oExtract, oNil, oSliceQ, oLoadRow, takeCells, TS.atRow, TS.ex, treeMode, AV.isOwn, TK.isSl, nilTk, nilsB, oLenQ, oLen, nodupB, treeOf, kidAbs, kidRows, TK.isCell, D.toL, oLoad, oStore, oMake, oIndexAddr, ↓reduceIte, reduceCtorEq, Nat.reduceBEq, Nat.reduceAdd, Nat.reduceMul, Nat.reduceLT, Nat.reduceSub, Nat.reduceLeDiff, Nat.reduceEqDiff, Nat.reduceBneDiff, Int.reduceToNat, decide_eq_true_eq, decide_eq_false_iff_not, beq_iff_eq, Int.toNat_natCast, List.range, List.range.loop]
      exact ⟨⟨by omega, by omega⟩, [(0, some 0), (1, some 1), (2, some 2), (3, some _)], ⟨⟨⟨rfl, rfl, rfl⟩, trivial⟩, ⟨.inl rfl, rfl, rfl, rfl, .inl rfl, rfl, rfl, rfl, .inl rfl, rfl, rfl, rfl, .inl rfl, rfl, rfl, rfl, trivial⟩, by simp [rn, hpAt]⟩, by simp [keepIds, rn, List.range, List.range.loop]⟩
    · rename_i hk
      split at hg
      · rename_i hk3
        cases hg
        obtain ⟨⟨rfl, rfl, rfl⟩, ⟨rfl, rfl, rfl⟩, ⟨rfl, rfl, rfl⟩, ⟨rfl, rfl, rfl⟩, hb, hs0, hs1⟩ := hc
        refine ⟨⟨by simp [likeBs, likeB], by simp [Blk.liveB, blkIds, AV.ids.idsL, AV.ids], by simp [AV.ids, AV.ids.idsL]⟩, _, rfl, fun w Z s vs h => h, ?_⟩
        clear hlive
        have w1 : IntKind.i64.wrap (s + 1) = s + 1 := wrap_id (by omega) (by omega)
        have ka : (k = 1) = False := eq_false hk
        have kb : (k == 1) = false := by simp [hk]
        have kc : (k = 3) = True := eq_true hk3
        have kd : (k == 3) = true := by simp [hk3]
        simp (maxSteps := 3000000) only [Try.f100, ka, kb, kc, kd, w1, ↓reduceIte, Bool.false_eq_true, tYs, evL, implies_true, oMin, oCopy, oBin, oUn, oLoadKid, oStoreTree, oField, oExtract, oNil, oSliceQ, oLoadRow, takeCells, TS.atRow, TS.ex, treeMode, AV.isOwn, TK.isSl, nilTk, nilsB, oLenQ, oLen, nodupB, treeOf, kidAbs, kidRows, TK.isCell, D.toL, oLoad, oStore, oMake, oIndexAddr, ↓reduceIte, reduceCtorEq, Nat.reduceBEq, Nat.reduceAdd, Nat.reduceMul, Nat.reduceLT, Nat.reduceSub, Nat.reduceLeDiff, Nat.reduceEqDiff, Nat.reduceBneDiff, Int.reduceToNat, decide_eq_true_eq, decide_eq_false_iff_not, beq_iff_eq, Int.toNat_natCast, List.range, List.range.loop]
        exact ⟨⟨by omega, by omega⟩, [(0, some 0), (1, some 1), (2, some 2), (3, some _)], ⟨⟨⟨rfl, rfl, rfl⟩, trivial⟩, ⟨.inl rfl, rfl, rfl, rfl, .inl rfl, rfl, rfl, rfl, .inl rfl, rfl, rfl, rfl, .inl rfl, rfl, rfl, rfl, trivial⟩, by simp [rn, hpAt]⟩, by simp [keepIds, rn, List.range, List.range.loop]⟩
      · rename_i hk3
        cases hg
        obtain ⟨⟨rfl, rfl, rfl⟩, ⟨rfl, rfl, rfl⟩, ⟨rfl, rfl, rfl⟩, ⟨rfl, rfl, rfl⟩, hs0, hs1⟩ := hc
        refine ⟨⟨by simp [likeBs, likeB], by simp [Blk.liveB, blkIds, AV.ids.idsL, AV.ids], by simp [AV.ids, AV.ids.idsL]⟩, _, rfl, fun w Z s vs h => h, ?_⟩
        clear hlive
        have w1 : IntKind.i64.wrap (s + 1) = s + 1 := wrap_id (by omega) (by omega)
        have ka : (k = 1) = False := eq_false hk
        have kb : (k == 1) = false := by simp [hk]
        have kc : (k = 3) = False := eq_false hk3
        have kd : (k == 3) = false := by simp [hk3]
        simp (maxSteps := 3000000) only [Try.f100, ka, kb, kc, kd, w1, ↓reduceIte, Bool.false_eq_true, tYs, evL, implies_true, oMin, oCopy, oBin, oUn, oLoadKid, oStoreTree, oField, oExtract, oNil, oSliceQ, oLoadRow, takeCells, TS.atRow, TS.ex, treeMode, AV.isOwn, TK.isSl, nilTk, nilsB, oLenQ, oLen, nodupB, treeOf, kidAbs, kidRows, TK.isCell, D.toL, oLoad, oStore, oMake, oIndexAddr, ↓reduceIte, reduceCtorEq, Nat.reduceBEq, Nat.reduceAdd, Nat.reduceMul, Nat.reduceLT, Nat.reduceSub, Nat.reduceLeDiff, Nat.reduceEqDiff, Nat.reduceBneDiff, Int.reduceToNat, decide_eq_true_eq, decide_eq_false_iff_not, beq_iff_eq, Int.toNat_natCast, List.range, List.range.loop]
        exact ⟨[(0, some 0), (1, some 1), (2, some 2)], ⟨⟨⟨rfl, rfl, rfl⟩, trivial⟩, ⟨.inl rfl, rfl, rfl, rfl, .inl rfl, rfl, rfl, rfl, .inl rfl, rfl, rfl, rfl, trivial⟩, by simp [rn, hpAt]⟩, by simp [keepIds, rn, List.range, List.range.loop]⟩
  · cases hg
def go1 : List (FuncId × Abs) := [(94, pureAbs g_seek)]
theorem go1_ok : ∀ p ∈ go1, CallOk Try.prog p.1 p.2 := by
  intro p hp
  simp only [go1, List.mem_cons, List.not_mem_nil, or_false] at hp
  rcases hp with rfl
  · exact implSeek_ok.call
set_option maxHeartbeats 4000000 in
set_option maxRecDepth 100000 in
theorem goingOn_ok : OwnOk Try.prog 101 (ocOf g_goOn) := by
  refine OwnOk.of_vcD (G := go1) go1_ok mixed Try.func101 (by kernel_rfl) rfl ?_
  intro args cnd r bs hg hc
  unfold g_goOn at hg
  split at hg
  · rename_i sn rn' k vv sr rows
    cases hg
    obtain ⟨⟨l, rfl, hl⟩, ps, rfl, hp⟩ := hc
    rw [stsOf_rows, psOf_rows]
    refine ⟨⟨rfl, by simp [AV.ids, AV.ids.idsL]⟩, [.l 2 (stRows l), .agg [.v (.int .i64 k), .v (.int .i64 vv), .l 9 (pRows ps)]], rfl, fun w Z s vs h => CvL.ok (.cons (.l _ _ _ (stRows_w l)) (.cons (.cons (.refl _) (.cons (.refl _) (.cons (.l _ _ _ (pRows_w ps)) .nil))) .nil)) h, ?_⟩
    by_cases hk : k = 2
    · have ka : (k != 2) = false := by simp [hk]
      have kb : (k = 2) = True := eq_true hk
      obtain hm0 | ⟨m0, hm0⟩ : seek l vv = none ∨ ∃ m0, seek l vv = some m0 := by cases seek l vv <;> simp
      · have hs : (seekI l vv < 0) = True := eq_true (seek_neg.2 hm0)
        have e1 : goB l k vv = false := by rw [goB, hm0]; simp
        have e2 : goL l k vv ps = [] := by rw [goL, if_pos hk, hm0]
        rw [e1, e2]
        simp (maxSteps := 3000000) only [Try.f101, go1, g_seek, stsOf_rows, stRows_len, pRows_len, ka, hs, D.toI, dB, D.toB, D.toL, ↓reduceIte, Bool.false_eq_true, tYs, evL, implies_true, oMin, oCopy, oBin, oUn, oLoadKid, oStoreTree, oField, oExtract, oNil, oSliceQ, oLoadRow, takeCells, TS.atRow, TS.ex, treeMode, AV.isOwn, TK.isSl, nilTk, nilsB, oLenQ, oLen, nodupB, treeOf, kidAbs, kidRows, TK.isCell, D.toL, oLoad, oStore, oMake, oIndexAddr, ↓reduceIte, reduceCtorEq, Nat.reduceBEq, Nat.reduceAdd, Nat.reduceMul, Nat.reduceLT, Nat.reduceSub, Nat.reduceLeDiff, Nat.reduceEqDiff, Nat.reduceBneDiff, Int.reduceToNat, decide_eq_true_eq, decide_eq_false_iff_not, beq_iff_eq, Int.toNat_natCast, loopK_normal, loopK_exit, loopK_ret, doneD_ret, doneD_normal]
        refine ⟨⟨l, rfl, hl⟩, ?_⟩
        exact ⟨_, rfl, rfl⟩
      · have hs : (seekI l vv < 0) = False := eq_false fun h => by have := seek_neg.1 h; rw [hm0] at this; cases this
        have hsv : seekI l vv = (m0 : Int) := seek_some hm0
        have e1 : goB l k vv = true := by rw [goB, hm0, decide_eq_true hk]; rfl
        have e2 : goL l k vv ps = ps.map fun q => (m0, q) := by rw [goL, if_pos hk, hm0]
        rw [e1, e2]
        rw [hsv] at hs
        simp (maxSteps := 3000000) only [Try.f101, go1, g_seek, stsOf_rows, stRows_len, pRows_len, ka, hs, hsv, D.toI, dB, D.toB, D.toL, ↓reduceIte, Bool.false_eq_true, tYs, evL, implies_true, oMin, oCopy, oBin, oUn, oLoadKid, oStoreTree, oField, oExtract, oNil, oSliceQ, oLoadRow, takeCells, TS.atRow, TS.ex, treeMode, AV.isOwn, TK.isSl, nilTk, nilsB, oLenQ, oLen, nodupB, treeOf, kidAbs, kidRows, TK.isCell, D.toL, oLoad, oStore, oMake, oIndexAddr, ↓reduceIte, reduceCtorEq, Nat.reduceBEq, Nat.reduceAdd, Nat.reduceMul, Nat.reduceLT, Nat.reduceSub, Nat.reduceLeDiff, Nat.reduceEqDiff, Nat.reduceBneDiff, Int.reduceToNat, decide_eq_true_eq, decide_eq_false_iff_not, beq_iff_eq, Int.toNat_natCast, loopK_normal, loopK_exit, loopK_ret, doneD_ret, doneD_normal]
        refine ⟨⟨l, rfl, hl⟩, ⟨by omega, by omega, by omega, by omega⟩, ?_⟩
        refine e_loop _ _ _ _ _ _ _ _ (fun c : Nat => [.any, .any, .any, .any, .any, .v (.int .i64 (m0 : Int)), .own 0, .any, .any, .any, .any, .any, .any, .any, .any, .any, .any, .any, .any, .any, .any, .any, .any, .any, .any, .l 9 (pRows ps), .v (.int .i64 (ps.length : Int)), .v (.int .i64 (c : Int))] ++ List.replicate (Try.f101.ntmps - 28) .any) (fun c => [(0, .sl 128 10 (wRows ((ps.take c).map fun q => (m0, q))))]) (fun c => c ≤ ps.length) (fun c => ps.length - c) 1 (fun c => by simp) ?_ fun c hc' => ?_
        · exact ⟨0, [(0, some _)], Nat.zero_le _, ⟨⟨trivial, trivial, trivial, trivial, trivial, ⟨rfl, rfl, rfl⟩, ⟨rfl, rfl, rfl⟩, trivial, trivial, trivial, trivial, trivial, trivial, trivial, trivial, trivial, trivial, trivial, trivial, trivial, trivial, trivial, trivial, trivial, trivial, ⟨rfl, rfl, rfl⟩, ⟨rfl, rfl, rfl⟩, ⟨rfl, rfl, rfl⟩, fitT_rep _ _ rfl⟩, ⟨.inl rfl, rfl, rfl, rfl, trivial⟩, by simp [rn, hpAt]⟩, by simp [keepIds]⟩
        have w3 : IntKind.i64.wrap ((c : Int) + 1) = ((c + 1 : Nat) : Int) := wrap_id (by omega) (by omega)
        by_cases hc : c < ps.length
        · have hrow2 := pRows_get ps c hc
          have hc1 : ((c : Int) < (ps.length : Int)) = True := eq_true (by omega)
          have hc2 : (0 ≤ (c : Int)) = True := eq_true (by omega)
          have e0 : ((ps.take c).map fun q => (m0, q)) ++ [(m0, ps[c])] = (ps.take (c + 1)).map fun q => (m0, q) := by
            rw [List.take_add_one, List.getElem?_eq_getElem hc, List.map_append]; rfl
          have eA : wRows ((ps.take c).map fun q => (m0, q)) ++ [wRow (m0, ps[c])] = wRows ((ps.take (c + 1)).map fun q => (m0, q)) := by
            rw [← e0]; exact wRows_app _ [(m0, ps[c])]
          have eL : (wRows ((ps.take c).map fun q => (m0, q))).length = c := by rw [wRows_len, List.length_map, List.length_take]; omega
          rw [wRow, pRow] at eA
          simp (maxSteps := 3000000) only [Try.f101, go1, g_seek, stsOf_rows, stRows_len, pRows_len, hrow2, hc1, hc2, w3, pRow, eA, eL, D.toI, dB, D.toB, D.toL, ↓reduceIte, Bool.false_eq_true, tYs, evL, implies_true, oMin, oCopy, oBin, oUn, oLoadKid, oStoreTree, oField, oExtract, oNil, oSliceQ, oLoadRow, takeCells, TS.atRow, TS.ex, treeMode, AV.isOwn, TK.isSl, nilTk, nilsB, oLenQ, oLen, nodupB, treeOf, kidAbs, kidRows, TK.isCell, D.toL, oLoad, oStore, oMake, oIndexAddr, ↓reduceIte, reduceCtorEq, Nat.reduceBEq, Nat.reduceAdd, Nat.reduceMul, Nat.reduceLT, Nat.reduceSub, Nat.reduceLeDiff, Nat.reduceEqDiff, Nat.reduceBneDiff, Int.reduceToNat, decide_eq_true_eq, decide_eq_false_iff_not, beq_iff_eq, Int.toNat_natCast, loopK_normal, loopK_exit, loopK_ret, doneD_ret, doneD_normal]
          exact ⟨⟨by omega, by omega, by simp⟩, c + 1, [(0, some _)], by omega, by omega, ⟨⟨trivial, trivial, trivial, trivial, trivial, ⟨rfl, rfl, rfl⟩, ⟨rfl, rfl, rfl⟩, trivial, trivial, trivial, trivial, trivial, trivial, trivial, trivial, trivial, trivial, trivial, trivial, trivial, trivial, trivial, trivial, trivial, trivial, ⟨rfl, rfl, rfl⟩, ⟨rfl, rfl, rfl⟩, ⟨rfl, rfl, rfl⟩, fitT_rep _ _ rfl⟩, ⟨.inl rfl, rfl, rfl, rfl, trivial⟩, by simp [rn, hpAt]⟩, by simp [keepIds]⟩
        · have hc1 : ((c : Int) < (ps.length : Int)) = False := eq_false (by omega)
          rw [show (ps.map fun q => (m0, q)) = (ps.take c).map fun q => (m0, q) from by rw [List.take_of_length_le (by omega)]]
          simp (maxSteps := 3000000) only [Try.f101, go1, g_seek, stsOf_rows, stRows_len, pRows_len, hc1, w3, D.toI, dB, D.toB, D.toL, ↓reduceIte, Bool.false_eq_true, tYs, evL, implies_true, oMin, oCopy, oBin, oUn, oLoadKid, oStoreTree, oField, oExtract, oNil, oSliceQ, oLoadRow, takeCells, TS.atRow, TS.ex, treeMode, AV.isOwn, TK.isSl, nilTk, nilsB, oLenQ, oLen, nodupB, treeOf, kidAbs, kidRows, TK.isCell, D.toL, oLoad, oStore, oMake, oIndexAddr, ↓reduceIte, reduceCtorEq, Nat.reduceBEq, Nat.reduceAdd, Nat.reduceMul, Nat.reduceLT, Nat.reduceSub, Nat.reduceLeDiff, Nat.reduceEqDiff, Nat.reduceBneDiff, Int.reduceToNat, decide_eq_true_eq, decide_eq_false_iff_not, beq_iff_eq, Int.toNat_natCast, loopK_normal, loopK_exit, loopK_ret, doneD_ret, doneD_normal]
          exact ⟨_, rfl, rfl⟩
    · have ka : (k != 2) = true := by simp [hk]
      have e1 : goB l k vv = false := by rw [goB, decide_eq_false hk]; rfl
      have e2 : goL l k vv ps = [] := by rw [goL, if_neg hk]
      rw [e1, e2]
      simp (maxSteps := 3000000) only [Try.f101, go1, g_seek, stsOf_rows, stRows_len, pRows_len, ka, D.toI, dB, D.toB, D.toL, ↓reduceIte, Bool.false_eq_true, tYs, evL, implies_true, oMin, oCopy, oBin, oUn, oLoadKid, oStoreTree, oField, oExtract, oNil, oSliceQ, oLoadRow, takeCells, TS.atRow, TS.ex, treeMode, AV.isOwn, TK.isSl, nilTk, nilsB, oLenQ, oLen, nodupB, treeOf, kidAbs, kidRows, TK.isCell, D.toL, oLoad, oStore, oMake, oIndexAddr, ↓reduceIte, reduceCtorEq, Nat.reduceBEq, Nat.reduceAdd, Nat.reduceMul, Nat.reduceLT, Nat.reduceSub, Nat.reduceLeDiff, Nat.reduceEqDiff, Nat.reduceBneDiff, Int.reduceToNat, decide_eq_true_eq, decide_eq_false_iff_not, beq_iff_eq, Int.toNat_natCast, loopK_normal, loopK_exit, loopK_ret, doneD_ret, doneD_normal]
      refine ⟨⟨l, rfl, hl⟩, ?_⟩
      exact ⟨_, rfl, rfl⟩
  · rename_i sn rn' k vv
    cases hg
    obtain ⟨⟨l, rfl, hl⟩, hk⟩ := hc
    refine ⟨⟨rfl, by simp [AV.ids, AV.ids.idsL]⟩, [.l 2 (stRows l), .agg [.v (.int .i64 k), .v (.int .i64 vv), .mute]], rfl, fun w Z s vs h => CvL.ok (.cons (.l _ _ _ (stRows_w l)) (.cons (.cons (.refl _) (.cons (.refl _) (.cons (.refl _) .nil))) .nil)) h, ?_⟩
    have ka : (k != 2) = true := by simp [hk]
    simp (maxSteps := 3000000) only [Try.f101, go1, g_seek, stsOf_rows, stRows_len, pRows_len, ka, D.toI, dB, D.toB, D.toL, ↓reduceIte, Bool.false_eq_true, tYs, evL, implies_true, oMin, oCopy, oBin, oUn, oLoadKid, oStoreTree, oField, oExtract, oNil, oSliceQ, oLoadRow, takeCells, TS.atRow, TS.ex, treeMode, AV.isOwn, TK.isSl, nilTk, nilsB, oLenQ, oLen, nodupB, treeOf, kidAbs, kidRows, TK.isCell, D.toL, oLoad, oStore, oMake, oIndexAddr, ↓reduceIte, reduceCtorEq, Nat.reduceBEq, Nat.reduceAdd, Nat.reduceMul, Nat.reduceLT, Nat.reduceSub, Nat.reduceLeDiff, Nat.reduceEqDiff, Nat.reduceBneDiff, Int.reduceToNat, decide_eq_true_eq, decide_eq_false_iff_not, beq_iff_eq, Int.toNat_natCast, loopK_normal, loopK_exit, loopK_ret, doneD_ret, doneD_normal]
    refine ⟨⟨l, rfl, hl⟩, ?_⟩
    exact ⟨_, rfl, rfl⟩
  · cases hg
theorem fw_kind (s : St) (p : Pk) : (fwV s p).k = 1 ∨ (fwV s p).k = 3 ∨ (fwV s p).k = 2 ∨ ((fwV s p).k = 0 ∧ (fwV s p).ps = []) := by
  rcases fw_cases s p with e | ⟨hok, ⟨ht, e⟩ | ⟨k, n, hb, e⟩ | ⟨r, ht, hh, hl, hc, e⟩⟩
  · rw [e]; exact .inr (.inr (.inr ⟨rfl, rfl⟩))
  · rw [e]; exact .inl rfl
  · rw [e]; exact .inr (.inl rfl)
  · rw [e]; exact .inr (.inr (.inl rfl))
theorem one_gone (net : List St) (R : List (Nat × Pk)) (A T : List Pk) {d : Dn} (h : d.k = 0) (hp : d.ps = []) : tvOne net ⟨R, A, T⟩ d = ⟨R, A, T⟩ := by
  rw [tvOne, if_neg (by omega), if_neg (by omega), hp]
  split
  · rfl
  · rw [List.map_nil, List.append_nil]
def g_travel : PC := fun args => match args with
  | [.l _ rn', .v (.int .i64 n), .agg [.v (.int .i64 f), .v (.int .i64 t), .v (.int .i64 p), .v (.int .i64 h), .v (.int .i64 i), .v (.int .i64 a), .v (.bool m), .v (.bool u), .l _ rows]] => some ((∃ l, rn' = stRows l ∧ sMid l) ∧ ∃ xs, rows = rowsOfBytes xs ∧ xs.length ≤ 1048576, .agg [.own 0, .own 1, .v (.int .i64 (trN (stsOf rn') n ⟨f, t, p, h, i, a, m, u, bytesOfRows rows⟩ : Int))], [.tr .whole 29 9 [.cell, .cell, .cell, .cell, .cell, .cell, .cell, .cell, .sl 5 1 [.cell]] (pRows (trV (stsOf rn') n ⟨f, t, p, h, i, a, m, u, bytesOfRows rows⟩).arr), .tr .whole 29 9 [.cell, .cell, .cell, .cell, .cell, .cell, .cell, .cell, .sl 5 1 [.cell]] (pRows (trV (stsOf rn') n ⟨f, t, p, h, i, a, m, u, bytesOfRows rows⟩).nts)])
  | _ => none
def tv2 : List (FuncId × Abs) := [(98, pureAbs g_inNet), (19, pureAbs g_packetOk), (99, pureAbs g_fwd), (100, ownAbs g_tripWith), (101, frzAbs g_goOn)]
theorem tv2_ok : ∀ p ∈ tv2, CallOk Try.prog p.1 p.2 := by
  intro p hp
  simp only [tv2, List.mem_cons, List.not_mem_nil, or_false] at hp
  rcases hp with rfl | rfl | rfl | rfl | rfl
  · exact inNet_ok.call
  · exact implPacketOk_ok.call
  · exact implForward_ok.call
  · exact tripWith_ok.call
  · exact goingOn_ok.callF
set_option maxHeartbeats 8000000 in
set_option maxRecDepth 100000 in
theorem implTravel_ok : PureOk Try.prog 36 g_travel := by
  refine PureOk.of_vc (G := tv2) tv2_ok mixed Try.func36 (by kernel_rfl) rfl ?_
  intro args cnd r bs hg hc
  unfold g_travel at hg
  split at hg
  · rename_i sn rn' n f t p h i a m u sz rows
    cases hg
    obtain ⟨⟨l, rfl, hl, hd⟩, xs, rfl, hxl⟩ := hc
    rw [stsOf_rows, bytesOf_rows]
    refine ⟨⟨rfl, by simp [flatB], by simp [AV.ids, AV.ids.idsL]⟩, [.l 2 (stRows l), .v (.int .i64 n), .agg [.v (.int .i64 f), .v (.int .i64 t), .v (.int .i64 p), .v (.int .i64 h), .v (.int .i64 i), .v (.int .i64 a), .v (.bool m), .v (.bool u), (.l 1 (rowsOfBytes xs))]], rfl, fun w vs h => CvL.ok (.cons (.l _ _ _ (stRows_w l)) (.cons (.refl _) (.cons (.cons (.refl _) (.cons (.refl _) (.cons (.refl _) (.cons (.refl _) (.cons (.refl _) (.cons (.refl _) (.cons (.refl _) (.cons (.refl _) (.cons (.l _ _ _ (rowsOf_w xs)) .nil))))))))) .nil))) h, ?_⟩
    cases h0 : inNet l n with
    | false =>
      have e : trB l n ⟨f, t, p, h, i, a, m, u, xs⟩ = false := by rw [trB, h0]; rfl
      rw [(tr_no e).1, (tr_no e).2]
      simp (maxSteps := 3000000) only [Try.f36, tv2, g_inNet, g_packetOk, g_fwd, g_tripWith, g_goOn, stsOf_rows, psOf_rows, rtsOf_rows, bytesOf_rows, rowsOf_len, rtRows_len, stRows_len, pRows_len, wRows_len, h0, D.toI, dB, D.toB, D.toL, ↓reduceIte, Bool.false_eq_true, tYs, evL, implies_true, oMin, oCopy, oBin, oUn, oLoadKid, oStoreTree, oField, oExtract, oNil, oSliceQ, oLoadRow, takeCells, TS.atRow, TS.ex, treeMode, AV.isOwn, TK.isSl, nilTk, nilsB, oLenQ, oLen, nodupB, treeOf, kidAbs, kidRows, TK.isCell, D.toL, oLoad, oStore, oMake, oIndexAddr, ↓reduceIte, reduceCtorEq, Nat.reduceBEq, Nat.reduceAdd, Nat.reduceMul, Nat.reduceLT, Nat.reduceSub, Nat.reduceLeDiff, Nat.reduceEqDiff, Nat.reduceBneDiff, Int.reduceToNat, decide_eq_true_eq, decide_eq_false_iff_not, beq_iff_eq, Int.toNat_natCast, loopK_normal, loopK_exit, loopK_ret]
      refine ⟨⟨l, rfl, hl, hd⟩, ?_⟩
      exact ⟨_, [(0, none), (1, none)], rfl, ⟨⟨⟨rfl, rfl, rfl⟩, trivial⟩, ⟨⟨by omega, rfl, rfl⟩, rfl, rfl, rfl, ⟨by omega, rfl, rfl⟩, rfl, rfl, rfl, trivial⟩, by simp [rn, hpAt]⟩⟩
    | true =>
      cases h1 : pkB f t p h i a m u xs.length with
      | false =>
        have e : trB l n ⟨f, t, p, h, i, a, m, u, xs⟩ = false := by rw [trB, Pk.ok, h1, Bool.and_false]
        rw [(tr_no e).1, (tr_no e).2]
        simp (maxSteps := 3000000) only [Try.f36, tv2, g_inNet, g_packetOk, g_fwd, g_tripWith, g_goOn, stsOf_rows, psOf_rows, rtsOf_rows, bytesOf_rows, rowsOf_len, rtRows_len, stRows_len, pRows_len, wRows_len, h0, h1, D.toI, dB, D.toB, D.toL, ↓reduceIte, Bool.false_eq_true, tYs, evL, implies_true, oMin, oCopy, oBin, oUn, oLoadKid, oStoreTree, oField, oExtract, oNil, oSliceQ, oLoadRow, takeCells, TS.atRow, TS.ex, treeMode, AV.isOwn, TK.isSl, nilTk, nilsB, oLenQ, oLen, nodupB, treeOf, kidAbs, kidRows, TK.isCell, D.toL, oLoad, oStore, oMake, oIndexAddr, ↓reduceIte, reduceCtorEq, Nat.reduceBEq, Nat.reduceAdd, Nat.reduceMul, Nat.reduceLT, Nat.reduceSub, Nat.reduceLeDiff, Nat.reduceEqDiff, Nat.reduceBneDiff, Int.reduceToNat, decide_eq_true_eq, decide_eq_false_iff_not, beq_iff_eq, Int.toNat_natCast, loopK_normal, loopK_exit, loopK_ret]
        refine ⟨⟨l, rfl, hl, hd⟩, ?_⟩
        exact ⟨_, [(0, none), (1, none)], rfl, ⟨⟨⟨rfl, rfl, rfl⟩, trivial⟩, ⟨⟨by omega, rfl, rfl⟩, rfl, rfl, rfl, ⟨by omega, rfl, rfl⟩, rfl, rfl, rfl, trivial⟩, by simp [rn, hpAt]⟩⟩
      | true =>
        obtain ⟨hnb, h5, hn0, hn1⟩ := inNet_of h0
        have hi : trB l n ⟨f, t, p, h, i, a, m, u, xs⟩ = true := by rw [trB, h0, Pk.ok, h1]; rfl
        obtain ⟨j, rfl⟩ : ∃ j : Nat, n = (j : Int) := ⟨n.toNat, by omega⟩
        have hok : Pk.ok ⟨f, t, p, h, i, a, m, u, xs⟩ = true := h1
        rw [(tr_yes hi).1, (tr_yes hi).2, Int.toNat_natCast]
        obtain ⟨B, hB⟩ : ∃ B, B = tvT l (trS j ⟨f, t, p, h, i, a, m, u, xs⟩) := ⟨_, rfl⟩
        have hBb : B ≤ 12288 := by rw [hB]; exact tr_bd l j hok
        simp (maxSteps := 3000000) only [Try.f36, tv2, g_inNet, g_packetOk, g_fwd, g_tripWith, g_goOn, stsOf_rows, psOf_rows, rtsOf_rows, bytesOf_rows, rowsOf_len, rtRows_len, stRows_len, pRows_len, wRows_len, h0, h1, D.toI, dB, D.toB, D.toL, ↓reduceIte, Bool.false_eq_true, tYs, evL, implies_true, oMin, oCopy, oBin, oUn, oLoadKid, oStoreTree, oField, oExtract, oNil, oSliceQ, oLoadRow, takeCells, TS.atRow, TS.ex, treeMode, AV.isOwn, TK.isSl, nilTk, nilsB, oLenQ, oLen, nodupB, treeOf, kidAbs, kidRows, TK.isCell, D.toL, oLoad, oStore, oMake, oIndexAddr, ↓reduceIte, reduceCtorEq, Nat.reduceBEq, Nat.reduceAdd, Nat.reduceMul, Nat.reduceLT, Nat.reduceSub, Nat.reduceLeDiff, Nat.reduceEqDiff, Nat.reduceBneDiff, Int.reduceToNat, decide_eq_true_eq, decide_eq_false_iff_not, beq_iff_eq, Int.toNat_natCast, loopK_normal, loopK_exit, loopK_ret]
        refine ⟨⟨l, rfl, hl, hd⟩, ?_⟩
        refine e_loop _ _ _ _ _ _ _ _ (fun x : Nat × TrS => [.l 2 (stRows l), .any, .any, .any, .any, .any, .ptr 0 0, .ptr 1 0, .own 2] ++ List.replicate (Try.f36.ntmps - 9) .any) (fun x => [(0, .var 71 [.v (.slice none 0 0), .v (.slice none 0 0), .v (.int .i64 0)]), (1, .var 71 [.own 3, .own 4, .v (.int .i64 (x.1 : Int))]), (2, .off 128 10 (wRows (x.2.row.drop x.1))), (3, .tr .whole 29 9 [.cell, .cell, .cell, .cell, .cell, .cell, .cell, .cell, .sl 5 1 [.cell]] (pRows x.2.arr)), (4, .tr .whole 29 9 [.cell, .cell, .cell, .cell, .cell, .cell, .cell, .cell, .sl 5 1 [.cell]] (pRows x.2.nts))]) (fun x => x.1 ≤ tvT l (trS j ⟨f, t, p, h, i, a, m, u, xs⟩) ∧ x.2 = tvK l (trS j ⟨f, t, p, h, i, a, m, u, xs⟩) x.1) (fun x => tvT l (trS j ⟨f, t, p, h, i, a, m, u, xs⟩) - x.1) 5 (fun x => by simp) ?_ fun x hk' => ?_
        · exact ⟨(0, trS j ⟨f, t, p, h, i, a, m, u, xs⟩), [(0, some _), (1, some _), (2, some _), (3, none), (4, none)], ⟨Nat.zero_le _, rfl⟩, ⟨⟨⟨rfl, rfl, rfl⟩, trivial, trivial, trivial, trivial, trivial, ⟨rfl, rfl, rfl⟩, ⟨rfl, rfl, rfl⟩, ⟨rfl, rfl, rfl⟩, fitT_rep _ _ rfl⟩, ⟨.inl rfl, rfl, rfl, rfl, .inl rfl, rfl, rfl, rfl, .inr ⟨rfl, Nat.zero_lt_one⟩, rfl, rfl, rfl, ⟨by omega, rfl, rfl⟩, rfl, rfl, rfl, ⟨by omega, rfl, rfl⟩, rfl, rfl, rfl, trivial⟩, by simp [rn, hpAt]⟩, by simp [keepIds]⟩
        obtain ⟨k, R, A, T⟩ := x
        obtain ⟨hk1, hS⟩ := hk'
        dsimp only at hk1 hS
        have hlt := tr_lt hk1
        rw [← hS] at hlt
        dsimp only at hlt
        by_cases hk : k < R.length
        · have hkT := hlt.1 hk
          obtain ⟨si, q, hq⟩ : ∃ si q, R[k] = (si, q) := ⟨_, _, rfl⟩
          have hin : si < l.length ∧ q.ok = true := by
            have := tr_in hok (show j < l.length by omega) k R[k] (by rw [← hS]; exact List.getElem_mem hk)
            rw [hq] at this
            exact this
          have hst : tvK l (trS j ⟨f, t, p, h, i, a, m, u, xs⟩) (k + 1) = tvOne l ⟨R, A, T⟩ (fwV l[si] q) := by
            have h2 : k < (tvK l (trS j ⟨f, t, p, h, i, a, m, u, xs⟩) k).row.length := by rw [← hS]; exact hk
            rw [tvK_step h2]
            simp only [← hS, hq, st_get hin.1]
          have hrl := tr_row_le (net := l) (S := trS j ⟨f, t, p, h, i, a, m, u, xs⟩) (k := k) (by omega)
          have hrn := tr_row_le (net := l) (S := trS j ⟨f, t, p, h, i, a, m, u, xs⟩) (k := k + 1) (by omega)
          have hal := tr_len l (trS j ⟨f, t, p, h, i, a, m, u, xs⟩) k
          rw [← hS] at hrl hal
          have hal1 : A.length ≤ 0 + k := hal.1
          have hal2 : T.length ≤ 0 + k := hal.2
          have hrl1 : R.length ≤ tvT l (trS j ⟨f, t, p, h, i, a, m, u, xs⟩) := hrl
          rw [hst] at hrn
          have hdr : R.drop k = (si, q) :: R.drop (k + 1) := by rw [List.drop_eq_getElem_cons hk, hq]
          have hdl : (R.drop k).length = R.length - k := List.length_drop
          have hdl1 : (R.drop (k + 1)).length = R.length - (k + 1) := List.length_drop
          have hrow : (wRows (R.drop k)).getD 0 [] = wRow (si, q) := by rw [hdr]; rfl
          have hcut : (wRows (R.drop k)).drop 1 = wRows (R.drop (k + 1)) := by rw [hdr]; rfl
          have hnet := stRows_get l si hin.1
          have hx := hd l[si] (List.getElem_mem hin.1)
          have hqb := ok_h hin.2
          have hg1 : (((R.drop k).length : Int) > 0) = True := eq_true (by omega)
          have hg2 : (0 < ((R.drop k).length : Int)) = True := eq_true (by omega)
          have hg3 : (0 ≤ (si : Int)) = True := eq_true (by omega)
          have hg4 : ((si : Int) < (l.length : Int)) = True := eq_true (by omega)
          have hfl := fw_len l[si] q
          have hkd := fw_kind l[si] q
          obtain ⟨Y, hD⟩ : ∃ Y, Y = fwV l[si] q := ⟨_, rfl⟩
          have hD' : fwV ⟨l[si].a, l[si].rs⟩ ⟨q.f, q.t, q.p, q.h, q.i, q.a, q.m, q.u, q.d⟩ = Y := hD.symm
          rw [← hD] at hst hfl hrn hkd
          have hcast : ((k : Int) + 1) = ((k + 1 : Nat) : Int) := rfl
          have wRows_nil : wRows [] = [] := rfl
          have hLE : (∃ l_1, stRows l = stRows l_1 ∧ l_1.length ≤ 1048576) := ⟨l, rfl, hl⟩
          have hPE : (∃ ps, pRows Y.ps = pRows ps ∧ ps.length ≤ 1000000) := ⟨_, rfl, by omega⟩
          rcases hkd with hk1 | hk3 | hk2 | ⟨hk0, hp0⟩
          · have ka : (Y.k = 1) = True := eq_true hk1
            simp (maxSteps := 3000000) only [Try.f36, tv2, g_inNet, g_packetOk, g_fwd, g_tripWith, g_goOn, stsOf_rows, psOf_rows, rtsOf_rows, bytesOf_rows, rowsOf_len, rtRows_len, stRows_len, pRows_len, wRows_len, hrow, hcut, hnet, hg1, hg2, hg3, hg4, wRow, pRow, hD', pRows_app, hcast, wRows_nil, ka, D.toI, dB, D.toB, D.toL, ↓reduceIte, Bool.false_eq_true, tYs, evL, implies_true, oMin, oCopy, oBin, oUn, oLoadKid, oStoreTree, oField, oExtract, oNil, oSliceQ, oLoadRow, takeCells, TS.atRow, TS.ex, treeMode, AV.isOwn, TK.isSl, nilTk, nilsB, oLenQ, oLen, nodupB, treeOf, kidAbs, kidRows, TK.isCell, D.toL, oLoad, oStore, oMake, oIndexAddr, ↓reduceIte, reduceCtorEq, Nat.reduceBEq, Nat.reduceAdd, Nat.reduceMul, Nat.reduceLT, Nat.reduceSub, Nat.reduceLeDiff, Nat.reduceEqDiff, Nat.reduceBneDiff, Int.reduceToNat, decide_eq_true_eq, decide_eq_false_iff_not, beq_iff_eq, Int.toNat_natCast, loopK_normal, loopK_exit, loopK_ret]
            refine ⟨by omega, by omega, ⟨⟨_, rfl, hx⟩, _, rfl, by omega⟩, by kernel_rfl, ⟨by omega, by omega, by omega⟩, ⟨by omega, by omega⟩, ⟨hLE, by omega⟩, ⟨by omega, by omega, by simp⟩, by kernel_rfl, ?_⟩
            exact ⟨(k + 1, ⟨R, A ++ Y.ps, T⟩), [(0, some 0), (1, some 1), (2, some _), (3, some _), (4, some _)], ⟨by dsimp only; omega, by rw [hst, one_here _ _ _ _ hk1]⟩, by dsimp only; omega, ⟨⟨⟨rfl, rfl, rfl⟩, trivial, trivial, trivial, trivial, trivial, ⟨rfl, rfl, rfl⟩, ⟨rfl, rfl, rfl⟩, ⟨rfl, rfl, rfl⟩, fitT_rep _ _ rfl⟩, ⟨.inl rfl, rfl, rfl, rfl, .inl rfl, rfl, rfl, rfl, .inl rfl, rfl, rfl, rfl, .inl rfl, rfl, rfl, rfl, .inl rfl, rfl, rfl, rfl, trivial⟩, by simp [rn, hpAt]⟩, by simp [keepIds]⟩
          · have ka : (Y.k = 1) = False := eq_false (by omega)
            have kc : (Y.k = 3) = True := eq_true hk3
            simp (maxSteps := 3000000) only [Try.f36, tv2, g_inNet, g_packetOk, g_fwd, g_tripWith, g_goOn, stsOf_rows, psOf_rows, rtsOf_rows, bytesOf_rows, rowsOf_len, rtRows_len, stRows_len, pRows_len, wRows_len, hrow, hcut, hnet, hg1, hg2, hg3, hg4, wRow, pRow, hD', pRows_app, hcast, wRows_nil, ka, kc, D.toI, dB, D.toB, D.toL, ↓reduceIte, Bool.false_eq_true, tYs, evL, implies_true, oMin, oCopy, oBin, oUn, oLoadKid, oStoreTree, oField, oExtract, oNil, oSliceQ, oLoadRow, takeCells, TS.atRow, TS.ex, treeMode, AV.isOwn, TK.isSl, nilTk, nilsB, oLenQ, oLen, nodupB, treeOf, kidAbs, kidRows, TK.isCell, D.toL, oLoad, oStore, oMake, oIndexAddr, ↓reduceIte, reduceCtorEq, Nat.reduceBEq, Nat.reduceAdd, Nat.reduceMul, Nat.reduceLT, Nat.reduceSub, Nat.reduceLeDiff, Nat.reduceEqDiff, Nat.reduceBneDiff, Int.reduceToNat, decide_eq_true_eq, decide_eq_false_iff_not, beq_iff_eq, Int.toNat_natCast, loopK_normal, loopK_exit, loopK_ret]
            refine ⟨by omega, by omega, ⟨⟨_, rfl, hx⟩, _, rfl, by omega⟩, by kernel_rfl, ⟨by omega, by omega, by omega⟩, ⟨by omega, by omega⟩, ⟨hLE, by omega⟩, ⟨by omega, by omega, by simp⟩, by kernel_rfl, ?_⟩
            exact ⟨(k + 1, ⟨R, A, T ++ Y.ps⟩), [(0, some 0), (1, some 1), (2, some _), (3, some _), (4, some _)], ⟨by dsimp only; omega, by rw [hst, one_note _ _ _ _ (by omega) hk3]⟩, by dsimp only; omega, ⟨⟨⟨rfl, rfl, rfl⟩, trivial, trivial, trivial, trivial, trivial, ⟨rfl, rfl, rfl⟩, ⟨rfl, rfl, rfl⟩, ⟨rfl, rfl, rfl⟩, fitT_rep _ _ rfl⟩, ⟨.inl rfl, rfl, rfl, rfl, .inl rfl, rfl, rfl, rfl, .inl rfl, rfl, rfl, rfl, .inl rfl, rfl, rfl, rfl, .inl rfl, rfl, rfl, rfl, trivial⟩, by simp [rn, hpAt]⟩, by simp [keepIds]⟩
          · have ka : (Y.k = 1) = False := eq_false (by omega)
            have kc : (Y.k = 3) = False := eq_false (by omega)
            obtain hm0 | ⟨m0, hm0⟩ : seek l Y.v = none ∨ ∃ m0, seek l Y.v = some m0 := by cases seek l Y.v <;> simp
            · have e2 : goL l Y.k Y.v Y.ps = [] := by rw [goL, if_pos hk2, hm0]
              simp (maxSteps := 3000000) only [Try.f36, tv2, g_inNet, g_packetOk, g_fwd, g_tripWith, g_goOn, stsOf_rows, psOf_rows, rtsOf_rows, bytesOf_rows, rowsOf_len, rtRows_len, stRows_len, pRows_len, wRows_len, hrow, hcut, hnet, hg1, hg2, hg3, hg4, wRow, pRow, hD', pRows_app, hcast, wRows_nil, ka, kc, e2, D.toI, dB, D.toB, D.toL, ↓reduceIte, Bool.false_eq_true, tYs, evL, implies_true, oMin, oCopy, oBin, oUn, oLoadKid, oStoreTree, oField, oExtract, oNil, oSliceQ, oLoadRow, takeCells, TS.atRow, TS.ex, treeMode, AV.isOwn, TK.isSl, nilTk, nilsB, oLenQ, oLen, nodupB, treeOf, kidAbs, kidRows, TK.isCell, D.toL, oLoad, oStore, oMake, oIndexAddr, ↓reduceIte, reduceCtorEq, Nat.reduceBEq, Nat.reduceAdd, Nat.reduceMul, Nat.reduceLT, Nat.reduceSub, Nat.reduceLeDiff, Nat.reduceEqDiff, Nat.reduceBneDiff, Int.reduceToNat, decide_eq_true_eq, decide_eq_false_iff_not, beq_iff_eq, Int.toNat_natCast, loopK_normal, loopK_exit, loopK_ret]
              refine ⟨by omega, by omega, ⟨⟨_, rfl, hx⟩, _, rfl, by omega⟩, by kernel_rfl, ⟨by omega, by omega⟩, ⟨by omega, by omega⟩, ⟨hLE, hPE⟩, ⟨by omega, by omega, by simp⟩, by kernel_rfl, ?_⟩
              exact ⟨(k + 1, ⟨R, A, T⟩), [(0, some 0), (1, some 1), (2, some _), (3, some _), (4, some _)], ⟨by dsimp only; omega, by rw [hst, one_none _ _ _ _ (by omega) (by omega) hm0]⟩, by dsimp only; omega, ⟨⟨⟨rfl, rfl, rfl⟩, trivial, trivial, trivial, trivial, trivial, ⟨rfl, rfl, rfl⟩, ⟨rfl, rfl, rfl⟩, ⟨rfl, rfl, rfl⟩, fitT_rep _ _ rfl⟩, ⟨.inl rfl, rfl, rfl, rfl, .inl rfl, rfl, rfl, rfl, .inl rfl, rfl, rfl, rfl, .inl rfl, rfl, rfl, rfl, .inl rfl, rfl, rfl, rfl, trivial⟩, by simp [rn, hpAt]⟩, by simp [keepIds]⟩
            · have e2 : goL l Y.k Y.v Y.ps = Y.ps.map fun q => (m0, q) := by rw [goL, if_pos hk2, hm0]
              rw [one_on _ _ _ _ (by omega) (by omega) hm0] at hrn
              have hrn' : R.length + Y.ps.length ≤ tvT l (trS j ⟨f, t, p, h, i, a, m, u, xs⟩) := by simpa using hrn
              have eW : wRows (R.drop (k + 1)) ++ wRows (Y.ps.map fun q => (m0, q)) = wRows ((R ++ Y.ps.map fun q => (m0, q)).drop (k + 1)) := by
                rw [List.drop_append_of_le_length (by omega), wRows_app]
              have eL : (Y.ps.map fun q => (m0, q)).length = Y.ps.length := List.length_map ..
              simp (maxSteps := 3000000) only [Try.f36, tv2, g_inNet, g_packetOk, g_fwd, g_tripWith, g_goOn, stsOf_rows, psOf_rows, rtsOf_rows, bytesOf_rows, rowsOf_len, rtRows_len, stRows_len, pRows_len, wRows_len, hrow, hcut, hnet, hg1, hg2, hg3, hg4, wRow, pRow, hD', pRows_app, hcast, wRows_nil, ka, kc, e2, eW, eL, D.toI, dB, D.toB, D.toL, ↓reduceIte, Bool.false_eq_true, tYs, evL, implies_true, oMin, oCopy, oBin, oUn, oLoadKid, oStoreTree, oField, oExtract, oNil, oSliceQ, oLoadRow, takeCells, TS.atRow, TS.ex, treeMode, AV.isOwn, TK.isSl, nilTk, nilsB, oLenQ, oLen, nodupB, treeOf, kidAbs, kidRows, TK.isCell, D.toL, oLoad, oStore, oMake, oIndexAddr, ↓reduceIte, reduceCtorEq, Nat.reduceBEq, Nat.reduceAdd, Nat.reduceMul, Nat.reduceLT, Nat.reduceSub, Nat.reduceLeDiff, Nat.reduceEqDiff, Nat.reduceBneDiff, Int.reduceToNat, decide_eq_true_eq, decide_eq_false_iff_not, beq_iff_eq, Int.toNat_natCast, loopK_normal, loopK_exit, loopK_ret]
              refine ⟨by omega, by omega, ⟨⟨_, rfl, hx⟩, _, rfl, by omega⟩, by kernel_rfl, ⟨by omega, by omega⟩, ⟨by omega, by omega⟩, ⟨hLE, hPE⟩, ⟨by omega, by omega, wRows_w _⟩, by kernel_rfl, ?_⟩
              exact ⟨(k + 1, ⟨R ++ Y.ps.map fun q => (m0, q), A, T⟩), [(0, some 0), (1, some 1), (2, some _), (3, some _), (4, some _)], ⟨by dsimp only; omega, by rw [hst, one_on _ _ _ _ (by omega) (by omega) hm0]⟩, by dsimp only; omega, ⟨⟨⟨rfl, rfl, rfl⟩, trivial, trivial, trivial, trivial, trivial, ⟨rfl, rfl, rfl⟩, ⟨rfl, rfl, rfl⟩, ⟨rfl, rfl, rfl⟩, fitT_rep _ _ rfl⟩, ⟨.inl rfl, rfl, rfl, rfl, .inl rfl, rfl, rfl, rfl, .inl rfl, rfl, rfl, rfl, .inl rfl, rfl, rfl, rfl, .inl rfl, rfl, rfl, rfl, trivial⟩, by simp [rn, hpAt]⟩, by simp [keepIds]⟩
          · have ka : (Y.k = 1) = False := eq_false (by omega)
            have kc : (Y.k = 3) = False := eq_false (by omega)
            have e2 : goL l Y.k Y.v Y.ps = [] := by rw [goL, if_neg (by omega)]
            simp (maxSteps := 3000000) only [Try.f36, tv2, g_inNet, g_packetOk, g_fwd, g_tripWith, g_goOn, stsOf_rows, psOf_rows, rtsOf_rows, bytesOf_rows, rowsOf_len, rtRows_len, stRows_len, pRows_len, wRows_len, hrow, hcut, hnet, hg1, hg2, hg3, hg4, wRow, pRow, hD', pRows_app, hcast, wRows_nil, ka, kc, e2, D.toI, dB, D.toB, D.toL, ↓reduceIte, Bool.false_eq_true, tYs, evL, implies_true, oMin, oCopy, oBin, oUn, oLoadKid, oStoreTree, oField, oExtract, oNil, oSliceQ, oLoadRow, takeCells, TS.atRow, TS.ex, treeMode, AV.isOwn, TK.isSl, nilTk, nilsB, oLenQ, oLen, nodupB, treeOf, kidAbs, kidRows, TK.isCell, D.toL, oLoad, oStore, oMake, oIndexAddr, ↓reduceIte, reduceCtorEq, Nat.reduceBEq, Nat.reduceAdd, Nat.reduceMul, Nat.reduceLT, Nat.reduceSub, Nat.reduceLeDiff, Nat.reduceEqDiff, Nat.reduceBneDiff, Int.reduceToNat, decide_eq_true_eq, decide_eq_false_iff_not, beq_iff_eq, Int.toNat_natCast, loopK_normal, loopK_exit, loopK_ret]
            refine ⟨by omega, by omega, ⟨⟨_, rfl, hx⟩, _, rfl, by omega⟩, by kernel_rfl, ⟨by omega, by omega⟩, ⟨by omega, by omega⟩, ⟨hLE, hPE⟩, ⟨by omega, by omega, by simp⟩, by kernel_rfl, ?_⟩
            exact ⟨(k + 1, ⟨R, A, T⟩), [(0, some 0), (1, some 1), (2, some _), (3, some _), (4, some _)], ⟨by dsimp only; omega, by rw [hst, one_gone _ _ _ _ hk0 hp0]⟩, by dsimp only; omega, ⟨⟨⟨rfl, rfl, rfl⟩, trivial, trivial, trivial, trivial, trivial, ⟨rfl, rfl, rfl⟩, ⟨rfl, rfl, rfl⟩, ⟨rfl, rfl, rfl⟩, fitT_rep _ _ rfl⟩, ⟨.inl rfl, rfl, rfl, rfl, .inl rfl, rfl, rfl, rfl, .inl rfl, rfl, rfl, rfl, .inl rfl, rfl, rfl, rfl, .inl rfl, rfl, rfl, rfl, trivial⟩, by simp [rn, hpAt]⟩, by simp [keepIds]⟩
        · have hg1 : (((R.drop k).length : Int) > 0) = False := eq_false (by rw [List.length_drop]; omega)
          have hkT : k = tvT l (trS j ⟨f, t, p, h, i, a, m, u, xs⟩) := by omega
          rw [← hkT, ← hS]
          simp (maxSteps := 3000000) only [Try.f36, tv2, g_inNet, g_packetOk, g_fwd, g_tripWith, g_goOn, stsOf_rows, psOf_rows, rtsOf_rows, bytesOf_rows, rowsOf_len, rtRows_len, stRows_len, pRows_len, wRows_len, hg1, D.toI, dB, D.toB, D.toL, ↓reduceIte, Bool.false_eq_true, tYs, evL, implies_true, oMin, oCopy, oBin, oUn, oLoadKid, oStoreTree, oField, oExtract, oNil, oSliceQ, oLoadRow, takeCells, TS.atRow, TS.ex, treeMode, AV.isOwn, TK.isSl, nilTk, nilsB, oLenQ, oLen, nodupB, treeOf, kidAbs, kidRows, TK.isCell, D.toL, oLoad, oStore, oMake, oIndexAddr, ↓reduceIte, reduceCtorEq, Nat.reduceBEq, Nat.reduceAdd, Nat.reduceMul, Nat.reduceLT, Nat.reduceSub, Nat.reduceLeDiff, Nat.reduceEqDiff, Nat.reduceBneDiff, Int.reduceToNat, decide_eq_true_eq, decide_eq_false_iff_not, beq_iff_eq, Int.toNat_natCast, loopK_normal, loopK_exit, loopK_ret]
          exact ⟨_, [(0, some 3), (1, some 4)], rfl, ⟨⟨⟨rfl, rfl, rfl⟩, trivial⟩, ⟨.inl rfl, rfl, rfl, rfl, .inl rfl, rfl, rfl, rfl, trivial⟩, by simp [rn, hpAt]⟩⟩
  · cases hg
end Go.Proofs.Ytegffkmakkccaaa
