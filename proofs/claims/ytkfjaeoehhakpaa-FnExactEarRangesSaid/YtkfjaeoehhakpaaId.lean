import Derived.Test.YtkfjaeoehhakpaaIc
set_option linter.unusedVariables false
set_option linter.unusedSimpArgs false
namespace Go.Proofs.Ytkfjaeoehhakpaa
open Go.RowKit
set_option linter.unusedSimpArgs false
def g_earRead : PC := fun args => match args with
  | [.agg [.v (.int .i64 n), .v (.int .i64 room), .l _ rg, .l _ rf], .v (.int .i64 m)] => some ((∃ xs, rg = rowsOfBytes xs ∧ xs.length ≤ 140737488355328) ∧ ∃ l, rf = erRows l ∧ l.length ≤ 1048577, .tup [.agg [.v (.int .i64 (rdV12 ⟨n, room, bytesOfRows rg, ersOf rf⟩ m).n), .v (.int .i64 (rdV12 ⟨n, room, bytesOfRows rg, ersOf rf⟩ m).room), .own 0, .own 1], .own 2], [.sl 5 1 (rowsOfBytes ((rdV12 ⟨n, room, bytesOfRows rg, ersOf rf⟩ m).g)), .sl 51 2 (erRows (rdV12 ⟨n, room, bytesOfRows rg, ersOf rf⟩ m).fr), .sl 5 1 (rowsOfBytes (rdB12 ⟨n, room, bytesOfRows rg, ersOf rf⟩ m))])
  | _ => none
set_option maxHeartbeats 4000000 in
set_option maxRecDepth 100000 in
theorem specPut12_ok : PureOk Try.prog 38 g_put12 := by
  refine PureOk.of_vc (G := []) (by simp) mixed Try.func38 (by kernel_rfl) rfl ?_
  intro args cnd r bs hg hc
  unfold g_put12 at hg
  split at hg
  · rename_i sf rf p b
    cases hg
    obtain ⟨⟨l, rfl, hl⟩, c, rfl⟩ := hc
    rw [ersOf_rows, toU8_back]
    refine ⟨⟨rfl, by simpa [flatB] using erRows_flat (insE l ⟨p, c⟩), by simp [AV.ids, AV.ids.idsL]⟩, [.l 2 (erRows l), .agg [.v (.int .i64 p), .v (.int .u8 (c.toNat : Int))]], rfl, fun w vs h => CvL.ok (.cons (.l _ _ _ (erRows_w l)) (.cons (.refl _) .nil)) h, ?_⟩
    have hol := ouE_len l ⟨p, c⟩
    simp (maxSteps := 3000000) only [Try.f38, erRows_len, Bool.not_true, List.append_eq, List.cons_append, List.nil_append, Bool.not_true, Bool.not_false, ↓reduceIte, Bool.false_eq_true, D.toI, D.toL, tYs, evL, implies_true, oMin, x_min3, oMin3, x_max, oMax, oCopy, oBin, oUn, oLoadKid, oStoreTree, oField, oExtract, oNil, oSliceQ, oSliceE, x_appendZ, oAppendZ, oSliceEnd, endMode, oLoadRow, takeCells, TS.atRow, TS.ex, treeMode, AV.isOwn, TK.isSl, nilTk, nilsB, oLenQ, oLen, nodupB, treeOf, kidAbs, kidRows, TK.isCell, D.toL, oLoad, oStore, oMake, oIndexAddr, ↓reduceIte, reduceCtorEq, Nat.reduceBEq, Nat.reduceAdd, Nat.reduceMul, Nat.reduceLT, Nat.reduceSub, Nat.reduceLeDiff, Nat.reduceEqDiff, Nat.reduceBneDiff, Int.reduceToNat, decide_eq_true_eq, decide_eq_false_iff_not, beq_iff_eq, Int.toNat_natCast, loopK_normal, loopK_exit, loopK_ret]
    refine e_loop _ _ _ _ _ _ _ _ (fun k : Nat => [.l 2 (erRows l), .any, .any, .ptr 0 0, .any, .own 1, .v (.bool (dnE l ⟨p, c⟩ k)), .v (.int .i64 (k : Int))] ++ List.replicate (Try.f38.ntmps - 8) .any) (fun k => [(0, .var 51 [.v (.int .i64 p), .v (.int .u8 (c.toNat : Int))]), (1, .sl 51 2 (erRows (ouE l ⟨p, c⟩ k)))]) (fun k => k ≤ l.length) (fun k => l.length - k) 2 (fun k => by simp) ?_ fun k hk' => ?_
    · exact ⟨0, [(0, some _), (1, some _)], Nat.zero_le _, ⟨⟨⟨rfl, rfl, rfl⟩, trivial, trivial, ⟨rfl, rfl, rfl⟩, trivial, ⟨rfl, rfl, rfl⟩, ⟨rfl, rfl, rfl⟩, ⟨rfl, rfl, rfl⟩, fitT_rep _ _ rfl⟩, ⟨.inl rfl, rfl, rfl, rfl, .inl rfl, rfl, rfl, rfl, trivial⟩, by simp [rn, hpAt]⟩, by simp [keepIds]⟩
    have hk1 : k ≤ l.length := hk'
    have w2 : IntKind.i64.wrap ((k : Int) + 1) = ((k + 1 : Nat) : Int) := by rw [wrap_id] <;> omega
    have hol := hol k
    by_cases hk : k < l.length
    · have hrow := erRows_get l k hk
      have hlt : ((k : Int) < (l.length : Int)) = True := eq_true (by omega)
      have h00 : (0 ≤ (k : Int)) = True := eq_true (by omega)
      have hdn := dnE_next (x := ⟨p, c⟩) hk
      rcases hd : dnE l ⟨p, c⟩ k with _ | _
      · rw [hd, Bool.false_or] at hdn
        by_cases q0 : p < l[k].p
        · have d0 : (p < l[k].p) = True := eq_true q0
          have d1 : (p = l[k].p) = False := eq_false (by omega)
          have d2 : (p == l[k].p) = false := by rw [beq_eq_false_iff_ne]; omega
          have e1 : dnE l ⟨p, c⟩ (k + 1) = true := by rw [hdn]; exact decide_eq_true (by show p ≤ l[k].p; omega)
          have hn0 : erRows (ouE l ⟨p, c⟩ k) ++ [[.v (.int .i64 p), .v (.int .u8 (c.toNat : Int))]] = erRows (ouE l ⟨p, c⟩ k ++ [⟨p, c⟩]) := by rw [← erRows_app]; rfl
          have hnx : erRows (ouE l ⟨p, c⟩ k ++ [⟨p, c⟩]) ++ [[.v (.int .i64 l[k].p), .v (.int .u8 (l[k].b.toNat : Int))]] = erRows (ouE l ⟨p, c⟩ (k + 1)) := by rw [ouE_lt hk hd q0, ← erRows_app, ← erRows_app, ← erRows_app]; rfl
          simp (maxSteps := 3000000) only [Try.f38, erRows_len, hrow, hlt, h00, hd, d0, d1, d2, hn0, hnx, w2, List.length_append, List.length_cons, List.length_nil, List.append_eq, List.cons_append, List.nil_append, Bool.not_true, Bool.not_false, ↓reduceIte, Bool.false_eq_true, D.toI, D.toL, tYs, evL, implies_true, oMin, x_min3, oMin3, x_max, oMax, oCopy, oBin, oUn, oLoadKid, oStoreTree, oField, oExtract, oNil, oSliceQ, oSliceE, x_appendZ, oAppendZ, oSliceEnd, endMode, oLoadRow, takeCells, TS.atRow, TS.ex, treeMode, AV.isOwn, TK.isSl, nilTk, nilsB, oLenQ, oLen, nodupB, treeOf, kidAbs, kidRows, TK.isCell, D.toL, oLoad, oStore, oMake, oIndexAddr, ↓reduceIte, reduceCtorEq, Nat.reduceBEq, Nat.reduceAdd, Nat.reduceMul, Nat.reduceLT, Nat.reduceSub, Nat.reduceLeDiff, Nat.reduceEqDiff, Nat.reduceBneDiff, Int.reduceToNat, decide_eq_true_eq, decide_eq_false_iff_not, beq_iff_eq, Int.toNat_natCast, loopK_normal, loopK_exit, loopK_ret]
          clear hn0 hnx
          (repeat (refine And.intro ?_ ?_; focus (((repeat' apply And.intro) <;> first | exact rowsOf_w _ | omega | (simp only [List.length_append, rowsOf_len, List.length_cons, List.length_nil, marks_len, List.length_take, List.length_drop, List.length_set]; omega) | exact ⟨_, rfl⟩ | (refine ⟨_, rfl, ?_⟩; omega) | (refine ⟨_, rfl, ?_⟩; simp only [List.length_append, rowsOf_len, List.length_cons, List.length_nil, marks_len, List.length_take, List.length_drop, List.length_set]; omega) | kernel_rfl | (simp; done)); done)))
          exact ⟨k + 1, [(0, some _), (1, some _)], by omega, by omega, ⟨⟨⟨rfl, rfl, rfl⟩, trivial, trivial, ⟨rfl, rfl, rfl⟩, trivial, ⟨rfl, rfl, rfl⟩, ⟨congrArg (fun z => AV.v (Value.bool z)) e1.symm, rfl, rfl⟩, ⟨rfl, rfl, rfl⟩, fitT_rep _ _ rfl⟩, ⟨.inl rfl, rfl, rfl, rfl, .inl rfl, rfl, rfl, rfl, trivial⟩, by simp [rn, hpAt]⟩, by simp [keepIds, rn]⟩
        · have d0 : (p < l[k].p) = False := eq_false q0
          by_cases q1 : p = l[k].p
          · have d1 : (p = l[k].p) = True := eq_true q1
            have d2 : (p == l[k].p) = true := by rw [beq_iff_eq]; exact q1
            have e1 : dnE l ⟨p, c⟩ (k + 1) = true := by rw [hdn]; exact decide_eq_true (by show p ≤ l[k].p; omega)
            have hnx : erRows (ouE l ⟨p, c⟩ k) ++ [[.v (.int .i64 l[k].p), .v (.int .u8 (l[k].b.toNat : Int))]] = erRows (ouE l ⟨p, c⟩ (k + 1)) := by rw [ouE_eq hk hd q1, ← erRows_app]; rfl
            simp (maxSteps := 3000000) only [Try.f38, erRows_len, hrow, hlt, h00, hd, d0, d1, d2, hnx, w2, List.append_eq, List.cons_append, List.nil_append, Bool.not_true, Bool.not_false, ↓reduceIte, Bool.false_eq_true, D.toI, D.toL, tYs, evL, implies_true, oMin, x_min3, oMin3, x_max, oMax, oCopy, oBin, oUn, oLoadKid, oStoreTree, oField, oExtract, oNil, oSliceQ, oSliceE, x_appendZ, oAppendZ, oSliceEnd, endMode, oLoadRow, takeCells, TS.atRow, TS.ex, treeMode, AV.isOwn, TK.isSl, nilTk, nilsB, oLenQ, oLen, nodupB, treeOf, kidAbs, kidRows, TK.isCell, D.toL, oLoad, oStore, oMake, oIndexAddr, ↓reduceIte, reduceCtorEq, Nat.reduceBEq, Nat.reduceAdd, Nat.reduceMul, Nat.reduceLT, Nat.reduceSub, Nat.reduceLeDiff, Nat.reduceEqDiff, Nat.reduceBneDiff, Int.reduceToNat, decide_eq_true_eq, decide_eq_false_iff_not, beq_iff_eq, Int.toNat_natCast, loopK_normal, loopK_exit, loopK_ret]
            clear hnx
            (repeat (refine And.intro ?_ ?_; focus (((repeat' apply And.intro) <;> first | exact rowsOf_w _ | omega | (simp only [List.length_append, rowsOf_len, List.length_cons, List.length_nil, marks_len, List.length_take, List.length_drop, List.length_set]; omega) | exact ⟨_, rfl⟩ | (refine ⟨_, rfl, ?_⟩; omega) | (refine ⟨_, rfl, ?_⟩; simp only [List.length_append, rowsOf_len, List.length_cons, List.length_nil, marks_len, List.length_take, List.length_drop, List.length_set]; omega) | kernel_rfl | (simp; done)); done)))
            exact ⟨k + 1, [(0, some _), (1, some _)], by omega, by omega, ⟨⟨⟨rfl, rfl, rfl⟩, trivial, trivial, ⟨rfl, rfl, rfl⟩, trivial, ⟨rfl, rfl, rfl⟩, ⟨congrArg (fun z => AV.v (Value.bool z)) e1.symm, rfl, rfl⟩, ⟨rfl, rfl, rfl⟩, fitT_rep _ _ rfl⟩, ⟨.inl rfl, rfl, rfl, rfl, .inl rfl, rfl, rfl, rfl, trivial⟩, by simp [rn, hpAt]⟩, by simp [keepIds, rn]⟩
          · have d1 : (p = l[k].p) = False := eq_false q1
            have d2 : (p == l[k].p) = false := by rw [beq_eq_false_iff_ne]; exact q1
            have e1 : dnE l ⟨p, c⟩ (k + 1) = false := by rw [hdn]; exact decide_eq_false (by show ¬ p ≤ l[k].p; omega)
            have hnx : erRows (ouE l ⟨p, c⟩ k) ++ [[.v (.int .i64 l[k].p), .v (.int .u8 (l[k].b.toNat : Int))]] = erRows (ouE l ⟨p, c⟩ (k + 1)) := by rw [ouE_gt hk hd (by show l[k].p < p; omega), ← erRows_app]; rfl
            simp (maxSteps := 3000000) only [Try.f38, erRows_len, hrow, hlt, h00, hd, d0, d1, d2, hnx, w2, List.append_eq, List.cons_append, List.nil_append, Bool.not_true, Bool.not_false, ↓reduceIte, Bool.false_eq_true, D.toI, D.toL, tYs, evL, implies_true, oMin, x_min3, oMin3, x_max, oMax, oCopy, oBin, oUn, oLoadKid, oStoreTree, oField, oExtract, oNil, oSliceQ, oSliceE, x_appendZ, oAppendZ, oSliceEnd, endMode, oLoadRow, takeCells, TS.atRow, TS.ex, treeMode, AV.isOwn, TK.isSl, nilTk, nilsB, oLenQ, oLen, nodupB, treeOf, kidAbs, kidRows, TK.isCell, D.toL, oLoad, oStore, oMake, oIndexAddr, ↓reduceIte, reduceCtorEq, Nat.reduceBEq, Nat.reduceAdd, Nat.reduceMul, Nat.reduceLT, Nat.reduceSub, Nat.reduceLeDiff, Nat.reduceEqDiff, Nat.reduceBneDiff, Int.reduceToNat, decide_eq_true_eq, decide_eq_false_iff_not, beq_iff_eq, Int.toNat_natCast, loopK_normal, loopK_exit, loopK_ret]
            clear hnx
            (repeat (refine And.intro ?_ ?_; focus (((repeat' apply And.intro) <;> first | exact rowsOf_w _ | omega | (simp only [List.length_append, rowsOf_len, List.length_cons, List.length_nil, marks_len, List.length_take, List.length_drop, List.length_set]; omega) | exact ⟨_, rfl⟩ | (refine ⟨_, rfl, ?_⟩; omega) | (refine ⟨_, rfl, ?_⟩; simp only [List.length_append, rowsOf_len, List.length_cons, List.length_nil, marks_len, List.length_take, List.length_drop, List.length_set]; omega) | kernel_rfl | (simp; done)); done)))
            exact ⟨k + 1, [(0, some _), (1, some _)], by omega, by omega, ⟨⟨⟨rfl, rfl, rfl⟩, trivial, trivial, ⟨rfl, rfl, rfl⟩, trivial, ⟨rfl, rfl, rfl⟩, ⟨congrArg (fun z => AV.v (Value.bool z)) e1.symm, rfl, rfl⟩, ⟨rfl, rfl, rfl⟩, fitT_rep _ _ rfl⟩, ⟨.inl rfl, rfl, rfl, rfl, .inl rfl, rfl, rfl, rfl, trivial⟩, by simp [rn, hpAt]⟩, by simp [keepIds, rn]⟩
      · rw [hd, Bool.true_or] at hdn
        have e1 := hdn
        have hnx : erRows (ouE l ⟨p, c⟩ k) ++ [[.v (.int .i64 l[k].p), .v (.int .u8 (l[k].b.toNat : Int))]] = erRows (ouE l ⟨p, c⟩ (k + 1)) := by rw [ouE_done hk hd, ← erRows_app]; rfl
        by_cases q1 : p = l[k].p
        · have d1 : (p = l[k].p) = True := eq_true q1
          have d2 : (p == l[k].p) = true := by rw [beq_iff_eq]; exact q1
          simp (maxSteps := 3000000) only [Try.f38, erRows_len, hrow, hlt, h00, hd, d1, d2, hnx, w2, List.append_eq, List.cons_append, List.nil_append, Bool.not_true, Bool.not_false, ↓reduceIte, Bool.false_eq_true, D.toI, D.toL, tYs, evL, implies_true, oMin, x_min3, oMin3, x_max, oMax, oCopy, oBin, oUn, oLoadKid, oStoreTree, oField, oExtract, oNil, oSliceQ, oSliceE, x_appendZ, oAppendZ, oSliceEnd, endMode, oLoadRow, takeCells, TS.atRow, TS.ex, treeMode, AV.isOwn, TK.isSl, nilTk, nilsB, oLenQ, oLen, nodupB, treeOf, kidAbs, kidRows, TK.isCell, D.toL, oLoad, oStore, oMake, oIndexAddr, ↓reduceIte, reduceCtorEq, Nat.reduceBEq, Nat.reduceAdd, Nat.reduceMul, Nat.reduceLT, Nat.reduceSub, Nat.reduceLeDiff, Nat.reduceEqDiff, Nat.reduceBneDiff, Int.reduceToNat, decide_eq_true_eq, decide_eq_false_iff_not, beq_iff_eq, Int.toNat_natCast, loopK_normal, loopK_exit, loopK_ret]
          clear hnx
          (repeat (refine And.intro ?_ ?_; focus (((repeat' apply And.intro) <;> first | exact rowsOf_w _ | omega | (simp only [List.length_append, rowsOf_len, List.length_cons, List.length_nil, marks_len, List.length_take, List.length_drop, List.length_set]; omega) | exact ⟨_, rfl⟩ | (refine ⟨_, rfl, ?_⟩; omega) | (refine ⟨_, rfl, ?_⟩; simp only [List.length_append, rowsOf_len, List.length_cons, List.length_nil, marks_len, List.length_take, List.length_drop, List.length_set]; omega) | kernel_rfl | (simp; done)); done)))
          exact ⟨k + 1, [(0, some _), (1, some _)], by omega, by omega, ⟨⟨⟨rfl, rfl, rfl⟩, trivial, trivial, ⟨rfl, rfl, rfl⟩, trivial, ⟨rfl, rfl, rfl⟩, ⟨congrArg (fun z => AV.v (Value.bool z)) e1.symm, rfl, rfl⟩, ⟨rfl, rfl, rfl⟩, fitT_rep _ _ rfl⟩, ⟨.inl rfl, rfl, rfl, rfl, .inl rfl, rfl, rfl, rfl, trivial⟩, by simp [rn, hpAt]⟩, by simp [keepIds, rn]⟩
        · have d1 : (p = l[k].p) = False := eq_false q1
          have d2 : (p == l[k].p) = false := by rw [beq_eq_false_iff_ne]; exact q1
          simp (maxSteps := 3000000) only [Try.f38, erRows_len, hrow, hlt, h00, hd, d1, d2, hnx, w2, List.append_eq, List.cons_append, List.nil_append, Bool.not_true, Bool.not_false, ↓reduceIte, Bool.false_eq_true, D.toI, D.toL, tYs, evL, implies_true, oMin, x_min3, oMin3, x_max, oMax, oCopy, oBin, oUn, oLoadKid, oStoreTree, oField, oExtract, oNil, oSliceQ, oSliceE, x_appendZ, oAppendZ, oSliceEnd, endMode, oLoadRow, takeCells, TS.atRow, TS.ex, treeMode, AV.isOwn, TK.isSl, nilTk, nilsB, oLenQ, oLen, nodupB, treeOf, kidAbs, kidRows, TK.isCell, D.toL, oLoad, oStore, oMake, oIndexAddr, ↓reduceIte, reduceCtorEq, Nat.reduceBEq, Nat.reduceAdd, Nat.reduceMul, Nat.reduceLT, Nat.reduceSub, Nat.reduceLeDiff, Nat.reduceEqDiff, Nat.reduceBneDiff, Int.reduceToNat, decide_eq_true_eq, decide_eq_false_iff_not, beq_iff_eq, Int.toNat_natCast, loopK_normal, loopK_exit, loopK_ret]
          clear hnx
          (repeat (refine And.intro ?_ ?_; focus (((repeat' apply And.intro) <;> first | exact rowsOf_w _ | omega | (simp only [List.length_append, rowsOf_len, List.length_cons, List.length_nil, marks_len, List.length_take, List.length_drop, List.length_set]; omega) | exact ⟨_, rfl⟩ | (refine ⟨_, rfl, ?_⟩; omega) | (refine ⟨_, rfl, ?_⟩; simp only [List.length_append, rowsOf_len, List.length_cons, List.length_nil, marks_len, List.length_take, List.length_drop, List.length_set]; omega) | kernel_rfl | (simp; done)); done)))
          exact ⟨k + 1, [(0, some _), (1, some _)], by omega, by omega, ⟨⟨⟨rfl, rfl, rfl⟩, trivial, trivial, ⟨rfl, rfl, rfl⟩, trivial, ⟨rfl, rfl, rfl⟩, ⟨congrArg (fun z => AV.v (Value.bool z)) e1.symm, rfl, rfl⟩, ⟨rfl, rfl, rfl⟩, fitT_rep _ _ rfl⟩, ⟨.inl rfl, rfl, rfl, rfl, .inl rfl, rfl, rfl, rfl, trivial⟩, by simp [rn, hpAt]⟩, by simp [keepIds, rn]⟩
    · have hlt : ((k : Int) < (l.length : Int)) = False := eq_false (by omega)
      obtain rfl : k = l.length := by omega
      obtain ⟨g1, g2⟩ := ouE_end (l := l) (x := ⟨p, c⟩)
      rcases hd : dnE l ⟨p, c⟩ l.length with _ | _
      · have hn0 : erRows (ouE l ⟨p, c⟩ l.length) ++ [[.v (.int .i64 p), .v (.int .u8 (c.toNat : Int))]] = erRows (insE l ⟨p, c⟩) := by rw [← g2 hd, ← erRows_app]; rfl
        simp (maxSteps := 3000000) only [Try.f38, erRows_len, hlt, hd, hn0, w2, List.append_eq, List.cons_append, List.nil_append, Bool.not_true, Bool.not_false, ↓reduceIte, Bool.false_eq_true, D.toI, D.toL, tYs, evL, implies_true, oMin, x_min3, oMin3, x_max, oMax, oCopy, oBin, oUn, oLoadKid, oStoreTree, oField, oExtract, oNil, oSliceQ, oSliceE, x_appendZ, oAppendZ, oSliceEnd, endMode, oLoadRow, takeCells, TS.atRow, TS.ex, treeMode, AV.isOwn, TK.isSl, nilTk, nilsB, oLenQ, oLen, nodupB, treeOf, kidAbs, kidRows, TK.isCell, D.toL, oLoad, oStore, oMake, oIndexAddr, ↓reduceIte, reduceCtorEq, Nat.reduceBEq, Nat.reduceAdd, Nat.reduceMul, Nat.reduceLT, Nat.reduceSub, Nat.reduceLeDiff, Nat.reduceEqDiff, Nat.reduceBneDiff, Int.reduceToNat, decide_eq_true_eq, decide_eq_false_iff_not, beq_iff_eq, Int.toNat_natCast, loopK_normal, loopK_exit, loopK_ret]
        clear hn0
        (repeat (refine And.intro ?_ ?_; focus (((repeat' apply And.intro) <;> first | exact rowsOf_w _ | omega | (simp only [List.length_append, rowsOf_len, List.length_cons, List.length_nil, marks_len, List.length_take, List.length_drop, List.length_set]; omega) | exact ⟨_, rfl⟩ | (refine ⟨_, rfl, ?_⟩; omega) | (refine ⟨_, rfl, ?_⟩; simp only [List.length_append, rowsOf_len, List.length_cons, List.length_nil, marks_len, List.length_take, List.length_drop, List.length_set]; omega) | kernel_rfl | (simp; done)); done)))
        exact ⟨_, [(0, some _)], rfl, ⟨⟨⟨rfl, rfl, rfl⟩, trivial⟩, ⟨.inl rfl, rfl, rfl, rfl, trivial⟩, by simp [rn, hpAt]⟩⟩
      · rw [g1 hd]
        simp (maxSteps := 3000000) only [Try.f38, erRows_len, hlt, hd, w2, List.append_eq, List.cons_append, List.nil_append, Bool.not_true, Bool.not_false, ↓reduceIte, Bool.false_eq_true, D.toI, D.toL, tYs, evL, implies_true, oMin, x_min3, oMin3, x_max, oMax, oCopy, oBin, oUn, oLoadKid, oStoreTree, oField, oExtract, oNil, oSliceQ, oSliceE, x_appendZ, oAppendZ, oSliceEnd, endMode, oLoadRow, takeCells, TS.atRow, TS.ex, treeMode, AV.isOwn, TK.isSl, nilTk, nilsB, oLenQ, oLen, nodupB, treeOf, kidAbs, kidRows, TK.isCell, D.toL, oLoad, oStore, oMake, oIndexAddr, ↓reduceIte, reduceCtorEq, Nat.reduceBEq, Nat.reduceAdd, Nat.reduceMul, Nat.reduceLT, Nat.reduceSub, Nat.reduceLeDiff, Nat.reduceEqDiff, Nat.reduceBneDiff, Int.reduceToNat, decide_eq_true_eq, decide_eq_false_iff_not, beq_iff_eq, Int.toNat_natCast, loopK_normal, loopK_exit, loopK_ret]
        exact ⟨_, [(0, some _)], rfl, ⟨⟨⟨rfl, rfl, rfl⟩, trivial⟩, ⟨.inl rfl, rfl, rfl, rfl, trivial⟩, by simp [rn, hpAt]⟩⟩
  · cases hg
def go12c : List (FuncId × Abs) := [(9, pureAbs g_earOk)]
theorem go12c_ok : ∀ p ∈ go12c, CallOk Try.prog p.1 p.2 := by
  intro p hp
  simp only [go12c, List.mem_cons, List.not_mem_nil, or_false] at hp
  rcases hp with rfl
  · exact specEarOk_ok.call
set_option maxHeartbeats 2000000 in
set_option maxRecDepth 100000 in
theorem specEarRead_ok : PureOk Try.prog 22 g_earRead := by
  refine PureOk.of_vc (G := go12c) go12c_ok mixed Try.func22 (by kernel_rfl) rfl ?_
  intro args cnd r bs hg hc
  unfold g_earRead at hg
  split at hg
  · rename_i n room sg rg sf rf m
    cases hg
    obtain ⟨⟨xs, rfl, hx⟩, l, rfl, hl⟩ := hc
    rw [bytesOf_rows, ersOf_rows]
    refine ⟨⟨rfl, by intro u hu; simp only [List.mem_cons, List.not_mem_nil, or_false] at hu; rcases hu with rfl | rfl | rfl; exact rowsOf_flat _; exact erRows_flat _; exact rowsOf_flat _, by simp [AV.ids, AV.ids.idsL]⟩, [.agg [.v (.int .i64 n), .v (.int .i64 room), .l 1 (rowsOfBytes xs), .l 2 (erRows l)], .v (.int .i64 m)], rfl, fun w vs h => CvL.ok (.cons (.cons (.refl _) (.cons (.refl _) (.cons (.l _ _ _ (rowsOf_w xs)) (.cons (.l _ _ _ (erRows_w l)) .nil)))) (.cons (.refl _) .nil)) h, ?_⟩
    have no : rdO ⟨n, room, xs, l⟩ m = false → rdV12 ⟨n, room, xs, l⟩ m = ea0 ∧ rdB12 ⟨n, room, xs, l⟩ m = [] := fun h => ⟨if_neg (by rw [h]; decide), if_neg (by rw [h]; decide)⟩
    have yes : rdO ⟨n, room, xs, l⟩ m = true → rdV12 ⟨n, room, xs, l⟩ m = rdE ⟨n, room, xs, l⟩ m ∧ rdB12 ⟨n, room, xs, l⟩ m = xs.take (rdN ⟨n, room, xs, l⟩ m) := fun h => ⟨if_pos h, if_pos h⟩
    rcases h0 : eaB ⟨n, room, xs, l⟩ with _ | _
    · obtain ⟨n1, n2⟩ := no (by rw [rdO, h0]; rfl)
      rw [n1, n2]
      clear no yes
      simp (maxSteps := 3000000) only [Try.f22, go12c, g_earOk, erRows_len, rowsOf_len, ersOf_rows, bytesOf_rows, rowsOf_drop, rowsOf_take, List.take_length, h0, List.append_eq, List.cons_append, List.nil_append, Bool.not_true, Bool.not_false, ↓reduceIte, Bool.false_eq_true, tYs, evL, implies_true, oMin, x_min3, oMin3, x_max, oMax, oCopy, oBin, oUn, oLoadKid, oStoreTree, oField, oExtract, oNil, oSliceQ, oSliceE, x_appendZ, oAppendZ, oSliceEnd, endMode, oLoadRow, takeCells, TS.atRow, TS.ex, treeMode, AV.isOwn, TK.isSl, nilTk, nilsB, oLenQ, oLen, nodupB, treeOf, kidAbs, kidRows, TK.isCell, D.toL, oLoad, oStore, oMake, oIndexAddr, ↓reduceIte, reduceCtorEq, Nat.reduceBEq, Nat.reduceAdd, Nat.reduceMul, Nat.reduceLT, Nat.reduceSub, Nat.reduceLeDiff, Nat.reduceEqDiff, Nat.reduceBneDiff, Int.reduceToNat, decide_eq_true_eq, decide_eq_false_iff_not, beq_iff_eq, Int.toNat_natCast, loopK_normal, loopK_exit, loopK_ret]
      refine ⟨⟨⟨xs, rfl, hx⟩, l, rfl, hl⟩, ?_⟩
      exact ⟨_, [(0, none), (1, none), (2, some _)], rfl, ⟨⟨⟨rfl, rfl, rfl⟩, trivial⟩, ⟨⟨by omega, rfl⟩, rfl, rfl, rfl, ⟨by omega, rfl⟩, rfl, rfl, rfl, .inl rfl, rfl, rfl, rfl, trivial⟩, by simp [rn, hpAt]⟩⟩
    · by_cases hm : m < 0
      · have hm' : (m < 0) = True := eq_true hm
        obtain ⟨n1, n2⟩ := no (by rw [rdO, decide_eq_false (show ¬ 0 ≤ m by omega), Bool.and_false])
        rw [n1, n2]
        clear no yes
        simp (maxSteps := 3000000) only [Try.f22, go12c, g_earOk, erRows_len, rowsOf_len, ersOf_rows, bytesOf_rows, rowsOf_drop, rowsOf_take, List.take_length, h0, hm', List.append_eq, List.cons_append, List.nil_append, Bool.not_true, Bool.not_false, ↓reduceIte, Bool.false_eq_true, tYs, evL, implies_true, oMin, x_min3, oMin3, x_max, oMax, oCopy, oBin, oUn, oLoadKid, oStoreTree, oField, oExtract, oNil, oSliceQ, oSliceE, x_appendZ, oAppendZ, oSliceEnd, endMode, oLoadRow, takeCells, TS.atRow, TS.ex, treeMode, AV.isOwn, TK.isSl, nilTk, nilsB, oLenQ, oLen, nodupB, treeOf, kidAbs, kidRows, TK.isCell, D.toL, oLoad, oStore, oMake, oIndexAddr, ↓reduceIte, reduceCtorEq, Nat.reduceBEq, Nat.reduceAdd, Nat.reduceMul, Nat.reduceLT, Nat.reduceSub, Nat.reduceLeDiff, Nat.reduceEqDiff, Nat.reduceBneDiff, Int.reduceToNat, decide_eq_true_eq, decide_eq_false_iff_not, beq_iff_eq, Int.toNat_natCast, loopK_normal, loopK_exit, loopK_ret]
        refine ⟨⟨⟨xs, rfl, hx⟩, l, rfl, hl⟩, ?_⟩
        exact ⟨_, [(0, none), (1, none), (2, some _)], rfl, ⟨⟨⟨rfl, rfl, rfl⟩, trivial⟩, ⟨⟨by omega, rfl⟩, rfl, rfl, rfl, ⟨by omega, rfl⟩, rfl, rfl, rfl, .inl rfl, rfl, rfl, rfl, trivial⟩, by simp [rn, hpAt]⟩⟩
      · have hm' : (m < 0) = False := eq_false hm
        obtain ⟨n1, n2⟩ := yes (by rw [rdO, h0, decide_eq_true (show 0 ≤ m by omega)]; rfl)
        rw [n1, n2]
        clear no yes
        have hcnt := ea_count h0
        have hroom := (eaB_iff.1 h0).2.1
        dsimp only at hcnt hroom
        obtain ⟨N, hN⟩ : ∃ N, N = rdN ⟨n, room, xs, l⟩ m := ⟨_, rfl⟩
        have hNl : N ≤ xs.length := by rw [hN]; exact Nat.min_le_right ..
        have hmin : min m (xs.length : Int) = (N : Int) := by rw [hN, rdN]; show min m (xs.length : Int) = ((min m.toNat xs.length : Nat) : Int); omega
        have hmin2 : (if (xs.length : Int) < m then (xs.length : Int) else m) = (N : Int) := by rw [← hmin]; split <;> omega
        have hmin3 : (if m < (xs.length : Int) then m else (xs.length : Int)) = (N : Int) := by rw [← hmin]; split <;> omega
        have hE : rdE ⟨n, room, xs, l⟩ m = ⟨n, room, xs.drop N, l⟩ := by rw [hN]; rfl
        rw [← hN, hE]
        clear hN hE
        simp (maxSteps := 3000000) only [Try.f22, go12c, g_earOk, erRows_len, rowsOf_len, ersOf_rows, bytesOf_rows, rowsOf_drop, rowsOf_take, List.take_length, h0, hm', hmin, hmin2, hmin3, Int.toNat_natCast, List.append_eq, List.cons_append, List.nil_append, Bool.not_true, Bool.not_false, ↓reduceIte, Bool.false_eq_true, tYs, evL, implies_true, oMin, x_min3, oMin3, x_max, oMax, oCopy, oBin, oUn, oLoadKid, oStoreTree, oField, oExtract, oNil, oSliceQ, oSliceE, x_appendZ, oAppendZ, oSliceEnd, endMode, oLoadRow, takeCells, TS.atRow, TS.ex, treeMode, AV.isOwn, TK.isSl, nilTk, nilsB, oLenQ, oLen, nodupB, treeOf, kidAbs, kidRows, TK.isCell, D.toL, oLoad, oStore, oMake, oIndexAddr, ↓reduceIte, reduceCtorEq, Nat.reduceBEq, Nat.reduceAdd, Nat.reduceMul, Nat.reduceLT, Nat.reduceSub, Nat.reduceLeDiff, Nat.reduceEqDiff, Nat.reduceBneDiff, Int.reduceToNat, decide_eq_true_eq, decide_eq_false_iff_not, beq_iff_eq, Int.toNat_natCast, loopK_normal, loopK_exit, loopK_ret]
        (repeat (refine And.intro ?_ ?_; focus (((repeat' apply And.intro) <;> first | omega | exact rowsOf_w _ | exact erRows_w _ | exact ⟨_, rfl⟩ | (refine ⟨_, rfl, ?_⟩; first | omega | (simp only [List.length_append, rowsOf_len, erRows_len, List.length_cons, List.length_nil, marks_len, List.length_take, List.length_drop, List.length_set, List.length_map, List.length_range]; omega)) | (simp only [List.length_append, rowsOf_len, erRows_len, List.length_cons, List.length_nil, marks_len, List.length_take, List.length_drop, List.length_set, List.length_map, List.length_range]; omega) | kernel_rfl | (simp; done)); done)))
        exact ⟨_, [(0, some _), (1, some _), (2, some _)], rfl, ⟨⟨⟨rfl, rfl, rfl⟩, trivial⟩, ⟨.inl rfl, rfl, rfl, rfl, .inl rfl, rfl, rfl, rfl, .inl rfl, rfl, rfl, rfl, trivial⟩, by simp [rn, hpAt]⟩⟩
  · cases hg
end Go.Proofs.Ytkfjaeoehhakpaa
