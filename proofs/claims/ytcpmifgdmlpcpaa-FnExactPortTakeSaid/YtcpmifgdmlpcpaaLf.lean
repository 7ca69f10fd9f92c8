import Derived.Test.YtcpmifgdmlpcpaaLe
set_option linter.unusedVariables false
set_option linter.unusedSimpArgs false
namespace Go.Proofs.Ytcpmifgdmlpcpaa
open Go.RowKit
set_option linter.unusedSimpArgs false
def spo : List (FuncId × Abs) := [(29, pureAbs g_l1In), (30, pureAbs g_mailOk)]
theorem spo_ok : ∀ p ∈ spo, CallOk Try.prog p.1 p.2 := by
  intro p hp
  simp only [spo, List.mem_cons, List.not_mem_nil, or_false] at hp
  rcases hp with rfl | rfl
  · exact l1In_ok.call
  · exact specMailOk_ok.call
set_option maxHeartbeats 8000000 in
set_option maxRecDepth 100000 in
theorem specPortsOk_ok : PureOk Try.prog 15 g_portsOk := by
  refine PureOk.of_vc (G := spo) spo_ok mixed Try.func15 (by kernel_rfl) rfl ?_
  intro args cnd r bs hg hc
  unfold g_portsOk at hg
  split at hg
  · rename_i sz rows
    cases hg
    obtain ⟨l, rfl, hn, hd⟩ := hc
    rw [posOf_rows]
    refine ⟨⟨rfl, by simp, by simp [AV.ids, AV.ids.idsL]⟩, [.l 2 (poRows l)], rfl, fun w vs h => CvL.ok (.cons (.l _ _ _ (poRows_w l)) .nil) h, ?_⟩
    simp (maxSteps := 3000000) only [Try.f15, spo, poRows_len, tYs, evL, implies_true, oMin, x_max, oMax, oCopy, oBin, oUn, oLoadKid, oStoreTree, oField, oExtract, oNil, oSliceQ, oSliceE, x_appendZ, oAppendZ, oSliceEnd, endMode, oLoadRow, takeCells, TS.atRow, TS.ex, treeMode, AV.isOwn, TK.isSl, nilTk, nilsB, oLenQ, oLen, nodupB, treeOf, kidAbs, kidRows, TK.isCell, D.toL, oLoad, oStore, oMake, oIndexAddr, ↓reduceIte, reduceCtorEq, Nat.reduceBEq, Nat.reduceAdd, Nat.reduceMul, Nat.reduceLT, Nat.reduceSub, Nat.reduceLeDiff, Nat.reduceEqDiff, Nat.reduceBneDiff, Int.reduceToNat, decide_eq_true_eq, decide_eq_false_iff_not, beq_iff_eq, Int.toNat_natCast]
    refine e_loop _ _ _ _ _ _ _ _ (fun k : Nat => [.l 2 (poRows l), .any, .any, .v (.int .i64 (k : Int))] ++ List.replicate (Try.f15.ntmps - 4) .any) (fun k => []) (fun k => k ≤ l.length ∧ posK l k = true) (fun k => l.length - k) 0 (fun k => by simp) ?_ fun k hk' => ?_
    · exact ⟨0, [], ⟨Nat.zero_le _, rfl⟩, ⟨⟨⟨rfl, rfl, rfl⟩, trivial, trivial, ⟨rfl, rfl, rfl⟩, fitT_rep _ _ rfl⟩, trivial, by simp [rn, hpAt]⟩, by simp [keepIds]⟩
    obtain ⟨hk1, hk2⟩ := hk'
    have w2 : IntKind.i64.wrap ((k : Int) + 1) = ((k + 1 : Nat) : Int) := by rw [wrap_id] <;> omega
    by_cases hk : k < l.length
    · have hrow := poRows_get l k hk
      have hlt : ((k : Int) < (l.length : Int)) = True := eq_true (by omega)
      have h0 : (0 ≤ (k : Int)) = True := eq_true (by omega)
      have hx := hd l[k] (List.getElem_mem hk)
      have hxl := hx.1
      have hst : poStep l k = (poB l[k] && (decide (k = 0) || decide ((l.getD (k - 1) po0).n < l[k].n))) := by rw [poStep, po_get hk]
      cases k with
      | zero =>
        have hz : (((0 : Nat) : Int) > 0) = False := eq_false (by omega)
        rw [decide_eq_true rfl, Bool.true_or, Bool.and_true] at hst
        have hNo : (l[0].row.all fun m => mlB m && decide (m.t = l[0].n)) = false → posB l = false := fun h => posB_no hk (by rw [hst, poB, h, Bool.and_false]; try rfl)
        rcases h1 : inZ l[0].n 1 255 with _ | _
        · have hno := posB_no hk (by rw [hst, poB, h1]; rfl)
          simp (maxSteps := 3000000) only [Try.f15, spo, poRows_len, mRows_len, g_l1In, g_mailOk, rowsOf_len, bytesOf_rows, hrow, hlt, h0, h1, D.toI, D.toL, poRow, mlRow, Bool.not_true, Bool.not_false, ↓reduceIte, Bool.false_eq_true, tYs, evL, implies_true, oMin, x_max, oMax, oCopy, oBin, oUn, oLoadKid, oStoreTree, oField, oExtract, oNil, oSliceQ, oSliceE, x_appendZ, oAppendZ, oSliceEnd, endMode, oLoadRow, takeCells, TS.atRow, TS.ex, treeMode, AV.isOwn, TK.isSl, nilTk, nilsB, oLenQ, oLen, nodupB, treeOf, kidAbs, kidRows, TK.isCell, D.toL, oLoad, oStore, oMake, oIndexAddr, ↓reduceIte, reduceCtorEq, Nat.reduceBEq, Nat.reduceAdd, Nat.reduceMul, Nat.reduceLT, Nat.reduceSub, Nat.reduceLeDiff, Nat.reduceEqDiff, Nat.reduceBneDiff, Int.reduceToNat, decide_eq_true_eq, decide_eq_false_iff_not, beq_iff_eq, Int.toNat_natCast, loopK_normal, loopK_exit, loopK_ret]
          rw [hno]
          exact ⟨by kernel_rfl, _, [], rfl, ⟨⟨⟨rfl, rfl, rfl⟩, trivial⟩, trivial, by simp [rn, hpAt]⟩⟩
        by_cases h3 : l[0].row.length ≤ 3
        · have h3c : ((l[0].row.length : Int) > 3) = False := eq_false (by omega)
          have hYes : (l[0].row.all fun m => mlB m && decide (m.t = l[0].n)) = true → poStep l (0) = true := fun h => by rw [hst, poB, h1, decide_eq_true h3, h]; try rfl
          simp (maxSteps := 3000000) only [Try.f15, spo, poRows_len, mRows_len, g_l1In, g_mailOk, rowsOf_len, bytesOf_rows, hrow, hlt, h0, hz, h1, h3c, D.toI, D.toL, poRow, mlRow, Bool.not_true, Bool.not_false, ↓reduceIte, Bool.false_eq_true, tYs, evL, implies_true, oMin, x_max, oMax, oCopy, oBin, oUn, oLoadKid, oStoreTree, oField, oExtract, oNil, oSliceQ, oSliceE, x_appendZ, oAppendZ, oSliceEnd, endMode, oLoadRow, takeCells, TS.atRow, TS.ex, treeMode, AV.isOwn, TK.isSl, nilTk, nilsB, oLenQ, oLen, nodupB, treeOf, kidAbs, kidRows, TK.isCell, D.toL, oLoad, oStore, oMake, oIndexAddr, ↓reduceIte, reduceCtorEq, Nat.reduceBEq, Nat.reduceAdd, Nat.reduceMul, Nat.reduceLT, Nat.reduceSub, Nat.reduceLeDiff, Nat.reduceEqDiff, Nat.reduceBneDiff, Int.reduceToNat, decide_eq_true_eq, decide_eq_false_iff_not, beq_iff_eq, Int.toNat_natCast, loopK_normal, loopK_exit, loopK_ret]
          refine ⟨by kernel_rfl, ?_⟩
          refine e_loop _ _ _ _ _ _ _ _ (fun j : Nat => [.l 2 (poRows l), .any, .any, .v (.int .i64 ((0 : Nat) : Int)), .v (.int .i64 (j : Int))] ++ List.replicate (Try.f15.ntmps - 5) .any) (fun j => []) (fun j => j ≤ l[0].row.length ∧ ((l[0].row.take j).all fun m => mlB m && decide (m.t = l[0].n)) = true) (fun j => l[0].row.length - j) 0 (fun j => by simp) ?_ fun j hj' => ?_
          · exact ⟨0, [], ⟨Nat.zero_le _, rfl⟩, ⟨⟨⟨rfl, rfl, rfl⟩, trivial, trivial, ⟨rfl, rfl, rfl⟩, ⟨rfl, rfl, rfl⟩, fitT_rep _ _ rfl⟩, trivial, by simp [rn, hpAt]⟩, by simp [keepIds]⟩
          obtain ⟨hj1, hj2⟩ := hj'
          have w2 : IntKind.i64.wrap ((j : Int) + 1) = ((j + 1 : Nat) : Int) := by rw [wrap_id] <;> omega
          have hK1 : IntKind.i64.wrap (((0 : Nat) : Int) + 1) = ((0 + 1 : Nat) : Int) := by rw [wrap_id] <;> omega
          by_cases hj : j < l[0].row.length
          · have hrm := mRows_get l[0].row j hj
            have hjl : ((j : Int) < (l[0].row.length : Int)) = True := eq_true (by omega)
            have hj0 : (0 ≤ (j : Int)) = True := eq_true (by omega)
            have hKm := mlK_of l[0].row[j].a l[0].row[j].f l[0].row[j].t l[0].row[j].d
            rcases g1 : mlB l[0].row[j] with _ | _
            · have hno := hNo (mls_no (n := l[0].n) hj (by rw [g1]; rfl))
              simp (maxSteps := 3000000) only [Try.f15, spo, poRows_len, mRows_len, g_l1In, g_mailOk, rowsOf_len, bytesOf_rows, hrow, hlt, h0, hK1, hrm, hjl, hj0, hKm, g1, D.toI, D.toL, poRow, mlRow, Bool.not_true, Bool.not_false, ↓reduceIte, Bool.false_eq_true, tYs, evL, implies_true, oMin, x_max, oMax, oCopy, oBin, oUn, oLoadKid, oStoreTree, oField, oExtract, oNil, oSliceQ, oSliceE, x_appendZ, oAppendZ, oSliceEnd, endMode, oLoadRow, takeCells, TS.atRow, TS.ex, treeMode, AV.isOwn, TK.isSl, nilTk, nilsB, oLenQ, oLen, nodupB, treeOf, kidAbs, kidRows, TK.isCell, D.toL, oLoad, oStore, oMake, oIndexAddr, ↓reduceIte, reduceCtorEq, Nat.reduceBEq, Nat.reduceAdd, Nat.reduceMul, Nat.reduceLT, Nat.reduceSub, Nat.reduceLeDiff, Nat.reduceEqDiff, Nat.reduceBneDiff, Int.reduceToNat, decide_eq_true_eq, decide_eq_false_iff_not, beq_iff_eq, Int.toNat_natCast, loopK_normal, loopK_exit, loopK_ret]
              rw [hno]
              exact ⟨by kernel_rfl, _, [], rfl, ⟨⟨⟨rfl, rfl, rfl⟩, trivial⟩, trivial, by simp [rn, hpAt]⟩⟩
            · by_cases g2 : l[0].row[j].t = l[0].n
              · have g2b : (l[0].row[j].t != l[0].n) = false := by simp [g2]
                simp (maxSteps := 3000000) only [Try.f15, spo, poRows_len, mRows_len, g_l1In, g_mailOk, rowsOf_len, bytesOf_rows, hrow, hlt, h0, hK1, hrm, hjl, hj0, hKm, g1, g2b, w2, D.toI, D.toL, poRow, mlRow, Bool.not_true, Bool.not_false, ↓reduceIte, Bool.false_eq_true, tYs, evL, implies_true, oMin, x_max, oMax, oCopy, oBin, oUn, oLoadKid, oStoreTree, oField, oExtract, oNil, oSliceQ, oSliceE, x_appendZ, oAppendZ, oSliceEnd, endMode, oLoadRow, takeCells, TS.atRow, TS.ex, treeMode, AV.isOwn, TK.isSl, nilTk, nilsB, oLenQ, oLen, nodupB, treeOf, kidAbs, kidRows, TK.isCell, D.toL, oLoad, oStore, oMake, oIndexAddr, ↓reduceIte, reduceCtorEq, Nat.reduceBEq, Nat.reduceAdd, Nat.reduceMul, Nat.reduceLT, Nat.reduceSub, Nat.reduceLeDiff, Nat.reduceEqDiff, Nat.reduceBneDiff, Int.reduceToNat, decide_eq_true_eq, decide_eq_false_iff_not, beq_iff_eq, Int.toNat_natCast, loopK_normal, loopK_exit, loopK_ret]
                exact ⟨by kernel_rfl, j + 1, [], ⟨by omega, all_take hj hj2 (by rw [g1, decide_eq_true g2]; rfl)⟩, by omega, ⟨⟨⟨rfl, rfl, rfl⟩, trivial, trivial, ⟨rfl, rfl, rfl⟩, ⟨rfl, rfl, rfl⟩, fitT_rep _ _ rfl⟩, trivial, by simp [rn, hpAt]⟩, by simp [keepIds]⟩
              · have g2b : (l[0].row[j].t != l[0].n) = true := by simp [g2]
                have hno := hNo (mls_no (n := l[0].n) hj (by rw [decide_eq_false g2, Bool.and_false]))
                simp (maxSteps := 3000000) only [Try.f15, spo, poRows_len, mRows_len, g_l1In, g_mailOk, rowsOf_len, bytesOf_rows, hrow, hlt, h0, hK1, hrm, hjl, hj0, hKm, g1, g2b, D.toI, D.toL, poRow, mlRow, Bool.not_true, Bool.not_false, ↓reduceIte, Bool.false_eq_true, tYs, evL, implies_true, oMin, x_max, oMax, oCopy, oBin, oUn, oLoadKid, oStoreTree, oField, oExtract, oNil, oSliceQ, oSliceE, x_appendZ, oAppendZ, oSliceEnd, endMode, oLoadRow, takeCells, TS.atRow, TS.ex, treeMode, AV.isOwn, TK.isSl, nilTk, nilsB, oLenQ, oLen, nodupB, treeOf, kidAbs, kidRows, TK.isCell, D.toL, oLoad, oStore, oMake, oIndexAddr, ↓reduceIte, reduceCtorEq, Nat.reduceBEq, Nat.reduceAdd, Nat.reduceMul, Nat.reduceLT, Nat.reduceSub, Nat.reduceLeDiff, Nat.reduceEqDiff, Nat.reduceBneDiff, Int.reduceToNat, decide_eq_true_eq, decide_eq_false_iff_not, beq_iff_eq, Int.toNat_natCast, loopK_normal, loopK_exit, loopK_ret]
                rw [hno]
                exact ⟨by kernel_rfl, _, [], rfl, ⟨⟨⟨rfl, rfl, rfl⟩, trivial⟩, trivial, by simp [rn, hpAt]⟩⟩
          · have hjl : ((j : Int) < (l[0].row.length : Int)) = False := eq_false (by omega)
            rw [List.take_of_length_le (by omega)] at hj2
            simp (maxSteps := 3000000) only [Try.f15, spo, poRows_len, mRows_len, g_l1In, g_mailOk, rowsOf_len, bytesOf_rows, hrow, hlt, h0, hK1, hjl, D.toI, D.toL, poRow, mlRow, Bool.not_true, Bool.not_false, ↓reduceIte, Bool.false_eq_true, tYs, evL, implies_true, oMin, x_max, oMax, oCopy, oBin, oUn, oLoadKid, oStoreTree, oField, oExtract, oNil, oSliceQ, oSliceE, x_appendZ, oAppendZ, oSliceEnd, endMode, oLoadRow, takeCells, TS.atRow, TS.ex, treeMode, AV.isOwn, TK.isSl, nilTk, nilsB, oLenQ, oLen, nodupB, treeOf, kidAbs, kidRows, TK.isCell, D.toL, oLoad, oStore, oMake, oIndexAddr, ↓reduceIte, reduceCtorEq, Nat.reduceBEq, Nat.reduceAdd, Nat.reduceMul, Nat.reduceLT, Nat.reduceSub, Nat.reduceLeDiff, Nat.reduceEqDiff, Nat.reduceBneDiff, Int.reduceToNat, decide_eq_true_eq, decide_eq_false_iff_not, beq_iff_eq, Int.toNat_natCast, loopK_normal, loopK_exit, loopK_ret]
            exact ⟨0 + 1, [], ⟨by omega, posK_yes hk hk2 (hYes hj2)⟩, by omega, ⟨⟨⟨rfl, rfl, rfl⟩, trivial, trivial, ⟨rfl, rfl, rfl⟩, fitT_rep _ _ rfl⟩, trivial, by simp [rn, hpAt]⟩, by simp [keepIds]⟩
        · have h3c : ((l[0].row.length : Int) > 3) = True := eq_true (by omega)
          have hno := posB_no hk (by rw [hst, poB, decide_eq_false h3, Bool.and_false]; rfl)
          simp (maxSteps := 3000000) only [Try.f15, spo, poRows_len, mRows_len, g_l1In, g_mailOk, rowsOf_len, bytesOf_rows, hrow, hlt, h0, hz, h1, h3c, D.toI, D.toL, poRow, mlRow, Bool.not_true, Bool.not_false, ↓reduceIte, Bool.false_eq_true, tYs, evL, implies_true, oMin, x_max, oMax, oCopy, oBin, oUn, oLoadKid, oStoreTree, oField, oExtract, oNil, oSliceQ, oSliceE, x_appendZ, oAppendZ, oSliceEnd, endMode, oLoadRow, takeCells, TS.atRow, TS.ex, treeMode, AV.isOwn, TK.isSl, nilTk, nilsB, oLenQ, oLen, nodupB, treeOf, kidAbs, kidRows, TK.isCell, D.toL, oLoad, oStore, oMake, oIndexAddr, ↓reduceIte, reduceCtorEq, Nat.reduceBEq, Nat.reduceAdd, Nat.reduceMul, Nat.reduceLT, Nat.reduceSub, Nat.reduceLeDiff, Nat.reduceEqDiff, Nat.reduceBneDiff, Int.reduceToNat, decide_eq_true_eq, decide_eq_false_iff_not, beq_iff_eq, Int.toNat_natCast, loopK_normal, loopK_exit, loopK_ret]
          rw [hno]
          exact ⟨by kernel_rfl, _, [], rfl, ⟨⟨⟨rfl, rfl, rfl⟩, trivial⟩, trivial, by simp [rn, hpAt]⟩⟩
      | succ q =>
        have wp : IntKind.i64.wrap (((q + 1 : Nat) : Int) - 1) = (q : Int) := by rw [wrap_id] <;> omega
        have hj : q < l.length := by omega
        have hrj := poRows_get l q hj
        have hjlt : ((q : Int) < (l.length : Int)) = True := eq_true (by omega)
        have h0j : (0 ≤ (q : Int)) = True := eq_true (by omega)
        have hgt : (((q + 1 : Nat) : Int) > 0) = True := eq_true (by omega)
        rw [decide_eq_false (by omega), Bool.false_or, Nat.add_sub_cancel, po_get hj] at hst
        have hNo : (l[q + 1].row.all fun m => mlB m && decide (m.t = l[q + 1].n)) = false → posB l = false := fun h => posB_no hk (by rw [hst, poB, h, Bool.and_false]; try rfl)
        rcases h1 : inZ l[q + 1].n 1 255 with _ | _
        · have hno := posB_no hk (by rw [hst, poB, h1]; rfl)
          simp (maxSteps := 3000000) only [Try.f15, spo, poRows_len, mRows_len, g_l1In, g_mailOk, rowsOf_len, bytesOf_rows, hrow, hlt, h0, h1, D.toI, D.toL, poRow, mlRow, Bool.not_true, Bool.not_false, ↓reduceIte, Bool.false_eq_true, tYs, evL, implies_true, oMin, x_max, oMax, oCopy, oBin, oUn, oLoadKid, oStoreTree, oField, oExtract, oNil, oSliceQ, oSliceE, x_appendZ, oAppendZ, oSliceEnd, endMode, oLoadRow, takeCells, TS.atRow, TS.ex, treeMode, AV.isOwn, TK.isSl, nilTk, nilsB, oLenQ, oLen, nodupB, treeOf, kidAbs, kidRows, TK.isCell, D.toL, oLoad, oStore, oMake, oIndexAddr, ↓reduceIte, reduceCtorEq, Nat.reduceBEq, Nat.reduceAdd, Nat.reduceMul, Nat.reduceLT, Nat.reduceSub, Nat.reduceLeDiff, Nat.reduceEqDiff, Nat.reduceBneDiff, Int.reduceToNat, decide_eq_true_eq, decide_eq_false_iff_not, beq_iff_eq, Int.toNat_natCast, loopK_normal, loopK_exit, loopK_ret]
          rw [hno]
          exact ⟨by kernel_rfl, _, [], rfl, ⟨⟨⟨rfl, rfl, rfl⟩, trivial⟩, trivial, by simp [rn, hpAt]⟩⟩
        by_cases h2 : l[q].n < l[q + 1].n
        rotate_left
        · have hle : (l[q].n ≥ l[q + 1].n) = True := eq_true (by omega)
          have hno := posB_no hk (by rw [hst, decide_eq_false h2, Bool.and_false])
          simp (maxSteps := 3000000) only [Try.f15, spo, poRows_len, mRows_len, g_l1In, g_mailOk, rowsOf_len, bytesOf_rows, hrow, hlt, h0, hgt, wp, hrj, hjlt, h0j, hle, h1, D.toI, D.toL, poRow, mlRow, Bool.not_true, Bool.not_false, ↓reduceIte, Bool.false_eq_true, tYs, evL, implies_true, oMin, x_max, oMax, oCopy, oBin, oUn, oLoadKid, oStoreTree, oField, oExtract, oNil, oSliceQ, oSliceE, x_appendZ, oAppendZ, oSliceEnd, endMode, oLoadRow, takeCells, TS.atRow, TS.ex, treeMode, AV.isOwn, TK.isSl, nilTk, nilsB, oLenQ, oLen, nodupB, treeOf, kidAbs, kidRows, TK.isCell, D.toL, oLoad, oStore, oMake, oIndexAddr, ↓reduceIte, reduceCtorEq, Nat.reduceBEq, Nat.reduceAdd, Nat.reduceMul, Nat.reduceLT, Nat.reduceSub, Nat.reduceLeDiff, Nat.reduceEqDiff, Nat.reduceBneDiff, Int.reduceToNat, decide_eq_true_eq, decide_eq_false_iff_not, beq_iff_eq, Int.toNat_natCast, loopK_normal, loopK_exit, loopK_ret]
          rw [hno]
          exact ⟨by kernel_rfl, _, [], rfl, ⟨⟨⟨rfl, rfl, rfl⟩, trivial⟩, trivial, by simp [rn, hpAt]⟩⟩
        have hle : (l[q].n ≥ l[q + 1].n) = False := eq_false (by omega)
        rw [decide_eq_true h2, Bool.and_true] at hst
        by_cases h3 : l[q + 1].row.length ≤ 3
        · have h3c : ((l[q + 1].row.length : Int) > 3) = False := eq_false (by omega)
          have hYes : (l[q + 1].row.all fun m => mlB m && decide (m.t = l[q + 1].n)) = true → poStep l (q + 1) = true := fun h => by rw [hst, poB, h1, decide_eq_true h3, h]; try rfl
          simp (maxSteps := 3000000) only [Try.f15, spo, poRows_len, mRows_len, g_l1In, g_mailOk, rowsOf_len, bytesOf_rows, hrow, hlt, h0, hgt, wp, hrj, hjlt, h0j, hle, h1, h3c, D.toI, D.toL, poRow, mlRow, Bool.not_true, Bool.not_false, ↓reduceIte, Bool.false_eq_true, tYs, evL, implies_true, oMin, x_max, oMax, oCopy, oBin, oUn, oLoadKid, oStoreTree, oField, oExtract, oNil, oSliceQ, oSliceE, x_appendZ, oAppendZ, oSliceEnd, endMode, oLoadRow, takeCells, TS.atRow, TS.ex, treeMode, AV.isOwn, TK.isSl, nilTk, nilsB, oLenQ, oLen, nodupB, treeOf, kidAbs, kidRows, TK.isCell, D.toL, oLoad, oStore, oMake, oIndexAddr, ↓reduceIte, reduceCtorEq, Nat.reduceBEq, Nat.reduceAdd, Nat.reduceMul, Nat.reduceLT, Nat.reduceSub, Nat.reduceLeDiff, Nat.reduceEqDiff, Nat.reduceBneDiff, Int.reduceToNat, decide_eq_true_eq, decide_eq_false_iff_not, beq_iff_eq, Int.toNat_natCast, loopK_normal, loopK_exit, loopK_ret]
          refine ⟨by kernel_rfl, ?_⟩
          refine e_loop _ _ _ _ _ _ _ _ (fun j : Nat => [.l 2 (poRows l), .any, .any, .v (.int .i64 ((q + 1 : Nat) : Int)), .v (.int .i64 (j : Int))] ++ List.replicate (Try.f15.ntmps - 5) .any) (fun j => []) (fun j => j ≤ l[q + 1].row.length ∧ ((l[q + 1].row.take j).all fun m => mlB m && decide (m.t = l[q + 1].n)) = true) (fun j => l[q + 1].row.length - j) 0 (fun j => by simp) ?_ fun j hj' => ?_
          · exact ⟨0, [], ⟨Nat.zero_le _, rfl⟩, ⟨⟨⟨rfl, rfl, rfl⟩, trivial, trivial, ⟨rfl, rfl, rfl⟩, ⟨rfl, rfl, rfl⟩, fitT_rep _ _ rfl⟩, trivial, by simp [rn, hpAt]⟩, by simp [keepIds]⟩
          obtain ⟨hj1, hj2⟩ := hj'
          have w2 : IntKind.i64.wrap ((j : Int) + 1) = ((j + 1 : Nat) : Int) := by rw [wrap_id] <;> omega
          have hK1 : IntKind.i64.wrap (((q + 1 : Nat) : Int) + 1) = ((q + 1 + 1 : Nat) : Int) := by rw [wrap_id] <;> omega
          by_cases hj : j < l[q + 1].row.length
          · have hrm := mRows_get l[q + 1].row j hj
            have hjl : ((j : Int) < (l[q + 1].row.length : Int)) = True := eq_true (by omega)
            have hj0 : (0 ≤ (j : Int)) = True := eq_true (by omega)
            have hKm := mlK_of l[q + 1].row[j].a l[q + 1].row[j].f l[q + 1].row[j].t l[q + 1].row[j].d
            rcases g1 : mlB l[q + 1].row[j] with _ | _
            · have hno := hNo (mls_no (n := l[q + 1].n) hj (by rw [g1]; rfl))
              simp (maxSteps := 3000000) only [Try.f15, spo, poRows_len, mRows_len, g_l1In, g_mailOk, rowsOf_len, bytesOf_rows, hrow, hlt, h0, hK1, hrm, hjl, hj0, hKm, g1, D.toI, D.toL, poRow, mlRow, Bool.not_true, Bool.not_false, ↓reduceIte, Bool.false_eq_true, tYs, evL, implies_true, oMin, x_max, oMax, oCopy, oBin, oUn, oLoadKid, oStoreTree, oField, oExtract, oNil, oSliceQ, oSliceE, x_appendZ, oAppendZ, oSliceEnd, endMode, oLoadRow, takeCells, TS.atRow, TS.ex, treeMode, AV.isOwn, TK.isSl, nilTk, nilsB, oLenQ, oLen, nodupB, treeOf, kidAbs, kidRows, TK.isCell, D.toL, oLoad, oStore, oMake, oIndexAddr, ↓reduceIte, reduceCtorEq, Nat.reduceBEq, Nat.reduceAdd, Nat.reduceMul, Nat.reduceLT, Nat.reduceSub, Nat.reduceLeDiff, Nat.reduceEqDiff, Nat.reduceBneDiff, Int.reduceToNat, decide_eq_true_eq, decide_eq_false_iff_not, beq_iff_eq, Int.toNat_natCast, loopK_normal, loopK_exit, loopK_ret]
              rw [hno]
              exact ⟨by kernel_rfl, _, [], rfl, ⟨⟨⟨rfl, rfl, rfl⟩, trivial⟩, trivial, by simp [rn, hpAt]⟩⟩
            · by_cases g2 : l[q + 1].row[j].t = l[q + 1].n
              · have g2b : (l[q + 1].row[j].t != l[q + 1].n) = false := by simp [g2]
                simp (maxSteps := 3000000) only [Try.f15, spo, poRows_len, mRows_len, g_l1In, g_mailOk, rowsOf_len, bytesOf_rows, hrow, hlt, h0, hK1, hrm, hjl, hj0, hKm, g1, g2b, w2, D.toI, D.toL, poRow, mlRow, Bool.not_true, Bool.not_false, ↓reduceIte, Bool.false_eq_true, tYs, evL, implies_true, oMin, x_max, oMax, oCopy, oBin, oUn, oLoadKid, oStoreTree, oField, oExtract, oNil, oSliceQ, oSliceE, x_appendZ, oAppendZ, oSliceEnd, endMode, oLoadRow, takeCells, TS.atRow, TS.ex, treeMode, AV.isOwn, TK.isSl, nilTk, nilsB, oLenQ, oLen, nodupB, treeOf, kidAbs, kidRows, TK.isCell, D.toL, oLoad, oStore, oMake, oIndexAddr, ↓reduceIte, reduceCtorEq, Nat.reduceBEq, Nat.reduceAdd, Nat.reduceMul, Nat.reduceLT, Nat.reduceSub, Nat.reduceLeDiff, Nat.reduceEqDiff, Nat.reduceBneDiff, Int.reduceToNat, decide_eq_true_eq, decide_eq_false_iff_not, beq_iff_eq, Int.toNat_natCast, loopK_normal, loopK_exit, loopK_ret]
                exact ⟨by kernel_rfl, j + 1, [], ⟨by omega, all_take hj hj2 (by rw [g1, decide_eq_true g2]; rfl)⟩, by omega, ⟨⟨⟨rfl, rfl, rfl⟩, trivial, trivial, ⟨rfl, rfl, rfl⟩, ⟨rfl, rfl, rfl⟩, fitT_rep _ _ rfl⟩, trivial, by simp [rn, hpAt]⟩, by simp [keepIds]⟩
              · have g2b : (l[q + 1].row[j].t != l[q + 1].n) = true := by simp [g2]
                have hno := hNo (mls_no (n := l[q + 1].n) hj (by rw [decide_eq_false g2, Bool.and_false]))
                simp (maxSteps := 3000000) only [Try.f15, spo, poRows_len, mRows_len, g_l1In, g_mailOk, rowsOf_len, bytesOf_rows, hrow, hlt, h0, hK1, hrm, hjl, hj0, hKm, g1, g2b, D.toI, D.toL, poRow, mlRow, Bool.not_true, Bool.not_false, ↓reduceIte, Bool.false_eq_true, tYs, evL, implies_true, oMin, x_max, oMax, oCopy, oBin, oUn, oLoadKid, oStoreTree, oField, oExtract, oNil, oSliceQ, oSliceE, x_appendZ, oAppendZ, oSliceEnd, endMode, oLoadRow, takeCells, TS.atRow, TS.ex, treeMode, AV.isOwn, TK.isSl, nilTk, nilsB, oLenQ, oLen, nodupB, treeOf, kidAbs, kidRows, TK.isCell, D.toL, oLoad, oStore, oMake, oIndexAddr, ↓reduceIte, reduceCtorEq, Nat.reduceBEq, Nat.reduceAdd, Nat.reduceMul, Nat.reduceLT, Nat.reduceSub, Nat.reduceLeDiff, Nat.reduceEqDiff, Nat.reduceBneDiff, Int.reduceToNat, decide_eq_true_eq, decide_eq_false_iff_not, beq_iff_eq, Int.toNat_natCast, loopK_normal, loopK_exit, loopK_ret]
                rw [hno]
                exact ⟨by kernel_rfl, _, [], rfl, ⟨⟨⟨rfl, rfl, rfl⟩, trivial⟩, trivial, by simp [rn, hpAt]⟩⟩
          · have hjl : ((j : Int) < (l[q + 1].row.length : Int)) = False := eq_false (by omega)
            rw [List.take_of_length_le (by omega)] at hj2
            simp (maxSteps := 3000000) only [Try.f15, spo, poRows_len, mRows_len, g_l1In, g_mailOk, rowsOf_len, bytesOf_rows, hrow, hlt, h0, hK1, hjl, D.toI, D.toL, poRow, mlRow, Bool.not_true, Bool.not_false, ↓reduceIte, Bool.false_eq_true, tYs, evL, implies_true, oMin, x_max, oMax, oCopy, oBin, oUn, oLoadKid, oStoreTree, oField, oExtract, oNil, oSliceQ, oSliceE, x_appendZ, oAppendZ, oSliceEnd, endMode, oLoadRow, takeCells, TS.atRow, TS.ex, treeMode, AV.isOwn, TK.isSl, nilTk, nilsB, oLenQ, oLen, nodupB, treeOf, kidAbs, kidRows, TK.isCell, D.toL, oLoad, oStore, oMake, oIndexAddr, ↓reduceIte, reduceCtorEq, Nat.reduceBEq, Nat.reduceAdd, Nat.reduceMul, Nat.reduceLT, Nat.reduceSub, Nat.reduceLeDiff, Nat.reduceEqDiff, Nat.reduceBneDiff, Int.reduceToNat, decide_eq_true_eq, decide_eq_false_iff_not, beq_iff_eq, Int.toNat_natCast, loopK_normal, loopK_exit, loopK_ret]
            exact ⟨q + 1 + 1, [], ⟨by omega, posK_yes hk hk2 (hYes hj2)⟩, by omega, ⟨⟨⟨rfl, rfl, rfl⟩, trivial, trivial, ⟨rfl, rfl, rfl⟩, fitT_rep _ _ rfl⟩, trivial, by simp [rn, hpAt]⟩, by simp [keepIds]⟩
        · have h3c : ((l[q + 1].row.length : Int) > 3) = True := eq_true (by omega)
          have hno := posB_no hk (by rw [hst, poB, decide_eq_false h3, Bool.and_false]; rfl)
          simp (maxSteps := 3000000) only [Try.f15, spo, poRows_len, mRows_len, g_l1In, g_mailOk, rowsOf_len, bytesOf_rows, hrow, hlt, h0, hgt, wp, hrj, hjlt, h0j, hle, h1, h3c, D.toI, D.toL, poRow, mlRow, Bool.not_true, Bool.not_false, ↓reduceIte, Bool.false_eq_true, tYs, evL, implies_true, oMin, x_max, oMax, oCopy, oBin, oUn, oLoadKid, oStoreTree, oField, oExtract, oNil, oSliceQ, oSliceE, x_appendZ, oAppendZ, oSliceEnd, endMode, oLoadRow, takeCells, TS.atRow, TS.ex, treeMode, AV.isOwn, TK.isSl, nilTk, nilsB, oLenQ, oLen, nodupB, treeOf, kidAbs, kidRows, TK.isCell, D.toL, oLoad, oStore, oMake, oIndexAddr, ↓reduceIte, reduceCtorEq, Nat.reduceBEq, Nat.reduceAdd, Nat.reduceMul, Nat.reduceLT, Nat.reduceSub, Nat.reduceLeDiff, Nat.reduceEqDiff, Nat.reduceBneDiff, Int.reduceToNat, decide_eq_true_eq, decide_eq_false_iff_not, beq_iff_eq, Int.toNat_natCast, loopK_normal, loopK_exit, loopK_ret]
          rw [hno]
          exact ⟨by kernel_rfl, _, [], rfl, ⟨⟨⟨rfl, rfl, rfl⟩, trivial⟩, trivial, by simp [rn, hpAt]⟩⟩
    · have hlt : ((k : Int) < (l.length : Int)) = False := eq_false (by omega)
      simp (maxSteps := 3000000) only [Try.f15, spo, poRows_len, mRows_len, g_l1In, g_mailOk, rowsOf_len, bytesOf_rows, hlt, D.toI, D.toL, poRow, mlRow, Bool.not_true, Bool.not_false, ↓reduceIte, Bool.false_eq_true, tYs, evL, implies_true, oMin, x_max, oMax, oCopy, oBin, oUn, oLoadKid, oStoreTree, oField, oExtract, oNil, oSliceQ, oSliceE, x_appendZ, oAppendZ, oSliceEnd, endMode, oLoadRow, takeCells, TS.atRow, TS.ex, treeMode, AV.isOwn, TK.isSl, nilTk, nilsB, oLenQ, oLen, nodupB, treeOf, kidAbs, kidRows, TK.isCell, D.toL, oLoad, oStore, oMake, oIndexAddr, ↓reduceIte, reduceCtorEq, Nat.reduceBEq, Nat.reduceAdd, Nat.reduceMul, Nat.reduceLT, Nat.reduceSub, Nat.reduceLeDiff, Nat.reduceEqDiff, Nat.reduceBneDiff, Int.reduceToNat, decide_eq_true_eq, decide_eq_false_iff_not, beq_iff_eq, Int.toNat_natCast, loopK_normal, loopK_exit, loopK_ret]
      obtain rfl : k = l.length := by omega
      by_cases h4 : l.length ≤ 4
      · have h4c : ((l.length : Int) ≤ 4) = True := eq_true (by omega)
        rw [posK_all hk2 h4]
        have e : decide ((l.length : Int) ≤ 4) = true := decide_eq_true (by omega)
        rw [e]
        exact ⟨_, [], rfl, ⟨⟨⟨rfl, rfl, rfl⟩, trivial⟩, trivial, by simp [rn, hpAt]⟩⟩
      · have e : decide ((l.length : Int) ≤ 4) = false := decide_eq_false (by omega)
        rw [e, posB, decide_eq_false h4, Bool.false_and, Bool.false_and]
        exact ⟨_, [], rfl, ⟨⟨⟨rfl, rfl, rfl⟩, trivial⟩, trivial, by simp [rn, hpAt]⟩⟩
  · cases hg
set_option maxRecDepth 100000 in
theorem l9At_ok : PureOk Try.prog 17 g_portAt := by
  refine PureOk.of_vc (G := []) (by simp) mixed Try.func17 (by kernel_rfl) rfl ?_
  intro args cnd r bs hg hc
  unfold g_portAt at hg
  split at hg
  · rename_i sz rows x
    cases hg
    obtain ⟨l, rfl, hn⟩ := hc
    rw [posOf_rows]
    refine ⟨⟨rfl, by simp, by simp [AV.ids, AV.ids.idsL]⟩, [.l 2 (poRows l), .v (.int .i64 x)], rfl, fun w vs h => CvL.ok (.cons (.l _ _ _ (poRows_w l)) (.cons (.refl _) .nil)) h, ?_⟩
    simp (maxSteps := 3000000) only [Try.f17, poRows_len, tYs, evL, implies_true, oMin, x_max, oMax, oCopy, oBin, oUn, oLoadKid, oStoreTree, oField, oExtract, oNil, oSliceQ, oSliceE, x_appendZ, oAppendZ, oSliceEnd, endMode, oLoadRow, takeCells, TS.atRow, TS.ex, treeMode, AV.isOwn, TK.isSl, nilTk, nilsB, oLenQ, oLen, nodupB, treeOf, kidAbs, kidRows, TK.isCell, D.toL, oLoad, oStore, oMake, oIndexAddr, ↓reduceIte, reduceCtorEq, Nat.reduceBEq, Nat.reduceAdd, Nat.reduceMul, Nat.reduceLT, Nat.reduceSub, Nat.reduceLeDiff, Nat.reduceEqDiff, Nat.reduceBneDiff, Int.reduceToNat, decide_eq_true_eq, decide_eq_false_iff_not, beq_iff_eq, Int.toNat_natCast]
    refine e_loop _ _ _ _ _ _ _ _ (fun k : Nat => [.l 2 (poRows l), .v (.int .i64 x), .any, .any, .any, .v (.int .i64 (k : Int))] ++ List.replicate (Try.f17.ntmps - 6) .any) (fun k => []) (fun k => k ≤ l.length ∧ ∀ j, j < k → (l.getD j po0).n ≠ x) (fun k => l.length - k) 0 (fun k => by simp) ?_ fun k hk' => ?_
    · exact ⟨0, [], ⟨Nat.zero_le _, fun j hj => by omega⟩, ⟨⟨⟨rfl, rfl, rfl⟩, ⟨rfl, rfl, rfl⟩, trivial, trivial, trivial, ⟨rfl, rfl, rfl⟩, fitT_rep _ _ rfl⟩, trivial, by simp [rn, hpAt]⟩, by simp [keepIds]⟩
    obtain ⟨hk1, hk2⟩ := hk'
    have w2 : IntKind.i64.wrap ((k : Int) + 1) = ((k + 1 : Nat) : Int) := by rw [wrap_id] <;> omega
    by_cases hk : k < l.length
    · have hrow := poRows_get l k hk
      have hlt : ((k : Int) < (l.length : Int)) = True := eq_true (by omega)
      have h0 : (0 ≤ (k : Int)) = True := eq_true (by omega)
      by_cases h1 : l[k].n = x
      · have h1b : (l[k].n == x) = true := beq_iff_eq.2 h1
        have h1c : (l[k].n = x) = True := eq_true h1
        simp (maxSteps := 3000000) only [Try.f17, mRows_len, poRows_len, mRows_len, rowsOf_len, bytesOf_rows, msOf_rows, posOf_rows, hrow, hlt, h0, h1b, h1c, D.toI, D.toL, poRow, tYs, evL, implies_true, oMin, x_max, oMax, oCopy, oBin, oUn, oLoadKid, oStoreTree, oField, oExtract, oNil, oSliceQ, oSliceE, x_appendZ, oAppendZ, oSliceEnd, endMode, oLoadRow, takeCells, TS.atRow, TS.ex, treeMode, AV.isOwn, TK.isSl, nilTk, nilsB, oLenQ, oLen, nodupB, treeOf, kidAbs, kidRows, TK.isCell, D.toL, oLoad, oStore, oMake, oIndexAddr, ↓reduceIte, reduceCtorEq, Nat.reduceBEq, Nat.reduceAdd, Nat.reduceMul, Nat.reduceLT, Nat.reduceSub, Nat.reduceLeDiff, Nat.reduceEqDiff, Nat.reduceBneDiff, Int.reduceToNat, decide_eq_true_eq, decide_eq_false_iff_not, beq_iff_eq, Int.toNat_natCast, loopK_normal, loopK_exit, loopK_ret, w2]
        rw [poAt_here hk hk2 h1]
        exact ⟨_, [], rfl, ⟨⟨⟨rfl, rfl, rfl⟩, trivial⟩, trivial, by simp [rn, hpAt]⟩⟩
      · have h1b : (l[k].n == x) = false := by simpa using h1
        have h1c : (l[k].n = x) = False := eq_false h1
        simp (maxSteps := 3000000) only [Try.f17, mRows_len, poRows_len, mRows_len, rowsOf_len, bytesOf_rows, msOf_rows, posOf_rows, hrow, hlt, h0, h1b, h1c, D.toI, D.toL, poRow, tYs, evL, implies_true, oMin, x_max, oMax, oCopy, oBin, oUn, oLoadKid, oStoreTree, oField, oExtract, oNil, oSliceQ, oSliceE, x_appendZ, oAppendZ, oSliceEnd, endMode, oLoadRow, takeCells, TS.atRow, TS.ex, treeMode, AV.isOwn, TK.isSl, nilTk, nilsB, oLenQ, oLen, nodupB, treeOf, kidAbs, kidRows, TK.isCell, D.toL, oLoad, oStore, oMake, oIndexAddr, ↓reduceIte, reduceCtorEq, Nat.reduceBEq, Nat.reduceAdd, Nat.reduceMul, Nat.reduceLT, Nat.reduceSub, Nat.reduceLeDiff, Nat.reduceEqDiff, Nat.reduceBneDiff, Int.reduceToNat, decide_eq_true_eq, decide_eq_false_iff_not, beq_iff_eq, Int.toNat_natCast, loopK_normal, loopK_exit, loopK_ret, w2]
        exact ⟨k + 1, [], ⟨by omega, fun j hj => by
          by_cases e : j = k
          · rw [e, po_get hk]; exact h1
          · exact hk2 j (by omega)⟩, by omega, ⟨⟨⟨rfl, rfl, rfl⟩, ⟨rfl, rfl, rfl⟩, trivial, trivial, trivial, ⟨rfl, rfl, rfl⟩, fitT_rep _ _ rfl⟩, trivial, by simp [rn, hpAt]⟩, by simp [keepIds]⟩
    · have hlt : ((k : Int) < (l.length : Int)) = False := eq_false (by omega)
      simp (maxSteps := 3000000) only [Try.f17, mRows_len, poRows_len, mRows_len, rowsOf_len, bytesOf_rows, msOf_rows, posOf_rows, hlt, D.toI, D.toL, poRow, tYs, evL, implies_true, oMin, x_max, oMax, oCopy, oBin, oUn, oLoadKid, oStoreTree, oField, oExtract, oNil, oSliceQ, oSliceE, x_appendZ, oAppendZ, oSliceEnd, endMode, oLoadRow, takeCells, TS.atRow, TS.ex, treeMode, AV.isOwn, TK.isSl, nilTk, nilsB, oLenQ, oLen, nodupB, treeOf, kidAbs, kidRows, TK.isCell, D.toL, oLoad, oStore, oMake, oIndexAddr, ↓reduceIte, reduceCtorEq, Nat.reduceBEq, Nat.reduceAdd, Nat.reduceMul, Nat.reduceLT, Nat.reduceSub, Nat.reduceLeDiff, Nat.reduceEqDiff, Nat.reduceBneDiff, Int.reduceToNat, decide_eq_true_eq, decide_eq_false_iff_not, beq_iff_eq, Int.toNat_natCast, loopK_normal, loopK_exit, loopK_ret, w2]
      obtain rfl : k = l.length := by omega
      rw [poAt_no hk2]
      exact ⟨_, [], rfl, ⟨⟨⟨rfl, rfl, rfl⟩, trivial⟩, trivial, by simp [rn, hpAt]⟩⟩
  · cases hg
def scp : List (FuncId × Abs) := [(29, pureAbs g_l1In), (29, pureAbs g_l1In)]
theorem scp_ok : ∀ p ∈ scp, CallOk Try.prog p.1 p.2 := by
  intro p hp
  simp only [scp, List.mem_cons, List.not_mem_nil, or_false] at hp
  rcases hp with rfl | rfl
  · exact l1In_ok.call
  · exact l1In_ok.call
set_option maxHeartbeats 2000000 in
set_option maxRecDepth 100000 in
theorem l9Copy_ok : PureOk Try.prog 16 g_portsCopied := by
  refine PureOk.of_vc (G := scp) scp_ok mixed Try.func16 (by kernel_rfl) rfl ?_
  intro args cnd r bs hg hc
  unfold g_portsCopied at hg
  split at hg
  · rename_i sz rows
    cases hg
    obtain ⟨l, rfl, hn, hd⟩ := hc
    refine ⟨⟨rfl, by simp [flatB], by simp [AV.ids, AV.ids.idsL]⟩, [.l 2 (poRows l)], rfl, fun w vs h => CvL.ok (.cons (.l _ _ _ (poRows_w l)) .nil) h, ?_⟩
    simp (maxSteps := 3000000) only [Try.f16, scp, poRows_len, tYs, evL, implies_true, oMin, x_max, oMax, oCopy, oBin, oUn, oLoadKid, oStoreTree, oField, oExtract, oNil, oSliceQ, oSliceE, x_appendZ, oAppendZ, oSliceEnd, endMode, oLoadRow, takeCells, TS.atRow, TS.ex, treeMode, AV.isOwn, TK.isSl, nilTk, nilsB, oLenQ, oLen, nodupB, treeOf, kidAbs, kidRows, TK.isCell, D.toL, oLoad, oStore, oMake, oIndexAddr, ↓reduceIte, reduceCtorEq, Nat.reduceBEq, Nat.reduceAdd, Nat.reduceMul, Nat.reduceLT, Nat.reduceSub, Nat.reduceLeDiff, Nat.reduceEqDiff, Nat.reduceBneDiff, Int.reduceToNat, decide_eq_true_eq, decide_eq_false_iff_not, beq_iff_eq, Int.toNat_natCast]
    refine e_loop _ _ _ _ _ _ _ _ (fun k : Nat => [.l 2 (poRows l), .any, .any, .own 0, .v (.int .i64 (k : Int))] ++ List.replicate (Try.f16.ntmps - 5) .any) (fun k => [(0, .tr .whole 44 2 [.cell, .sl 27 4 [.cell, .cell, .cell, .sl 5 1 [.cell]]] (poRows (l.take k)))]) (fun k => k ≤ l.length) (fun k => l.length - k) 1 (fun k => by simp) ?_ fun k hk' => ?_
    · exact ⟨0, [(0, some _)], Nat.zero_le _, ⟨⟨⟨rfl, rfl, rfl⟩, trivial, trivial, ⟨rfl, rfl, rfl⟩, ⟨rfl, rfl, rfl⟩, fitT_rep _ _ rfl⟩, ⟨.inr (.inl ⟨rfl, rfl, rfl⟩), rfl, rfl, rfl, trivial⟩, by simp [rn, hpAt]⟩, by simp [keepIds]⟩
    have w2 : IntKind.i64.wrap ((k : Int) + 1) = ((k + 1 : Nat) : Int) := by rw [wrap_id] <;> omega
    by_cases hk : k < l.length
    · have hrow := poRows_get l k hk
      have hlt : ((k : Int) < (l.length : Int)) = True := eq_true (by omega)
      have h0 : (0 ≤ (k : Int)) = True := eq_true (by omega)
      have hx := hd l[k] (List.getElem_mem hk)
      have hx1 := hx.1
      simp (maxSteps := 3000000) only [Try.f16, scp, poRows_len, mRows_len, rowsOf_len, bytesOf_rows, hrow, hlt, h0, D.toI, D.toL, poRow, mlRow, ↓reduceIte, Bool.false_eq_true, tYs, evL, implies_true, oMin, x_max, oMax, oCopy, oBin, oUn, oLoadKid, oStoreTree, oField, oExtract, oNil, oSliceQ, oSliceE, x_appendZ, oAppendZ, oSliceEnd, endMode, oLoadRow, takeCells, TS.atRow, TS.ex, treeMode, AV.isOwn, TK.isSl, nilTk, nilsB, oLenQ, oLen, nodupB, treeOf, kidAbs, kidRows, TK.isCell, D.toL, oLoad, oStore, oMake, oIndexAddr, ↓reduceIte, reduceCtorEq, Nat.reduceBEq, Nat.reduceAdd, Nat.reduceMul, Nat.reduceLT, Nat.reduceSub, Nat.reduceLeDiff, Nat.reduceEqDiff, Nat.reduceBneDiff, Int.reduceToNat, decide_eq_true_eq, decide_eq_false_iff_not, beq_iff_eq, Int.toNat_natCast, loopK_normal, loopK_exit, loopK_ret]
      refine e_loop _ _ _ _ _ _ _ _ (fun j : Nat => [.l 2 (poRows l), .any, .any, .own 0, .v (.int .i64 (k : Int)), .ptr 1 0, .v (.int .i64 (j : Int))] ++ List.replicate (Try.f16.ntmps - 7) .any) (fun j => [(0, .tr .whole 44 2 [.cell, .sl 27 4 [.cell, .cell, .cell, .sl 5 1 [.cell]]] (poRows (l.take k))), (1, .var 44 [.v (.int .i64 l[k].n), .own 2]), (2, .tr .whole 27 4 [.cell, .cell, .cell, .sl 5 1 [.cell]] (mRows (l[k].row.take j)))]) (fun j => j ≤ l[k].row.length) (fun j => l[k].row.length - j) 3 (fun j => by simp) ?_ fun j hj' => ?_
      · exact ⟨0, [(0, some 0), (1, some _), (2, none)], Nat.zero_le _, ⟨⟨⟨rfl, rfl, rfl⟩, trivial, trivial, ⟨rfl, rfl, rfl⟩, ⟨rfl, rfl, rfl⟩, ⟨rfl, rfl, rfl⟩, ⟨rfl, rfl, rfl⟩, fitT_rep _ _ rfl⟩, ⟨.inl rfl, rfl, rfl, rfl, .inl rfl, rfl, rfl, rfl, ⟨by omega, rfl, rfl⟩, rfl, rfl, rfl, trivial⟩, by simp [rn, hpAt]⟩, by simp [keepIds]⟩
      have wj : IntKind.i64.wrap ((j : Int) + 1) = ((j + 1 : Nat) : Int) := by rw [wrap_id] <;> omega
      by_cases hj : j < l[k].row.length
      · have hrm := mRows_get l[k].row j hj
        have hjl : ((j : Int) < (l[k].row.length : Int)) = True := eq_true (by omega)
        have hj0 : (0 ≤ (j : Int)) = True := eq_true (by omega)
        have hxd := hx.2 l[k].row[j] (List.getElem_mem hj)
        have e1 : mRows (l[k].row.take j) ++ [mlRow l[k].row[j]] = mRows (l[k].row.take (j + 1)) := by
          rw [take_one hj, ← mRows_app]; rfl
        have hpl : (mRows (l[k].row.take j)).length = j := by rw [mRows_len, List.length_take]; omega
        rw [mlRow] at e1
        simp (maxSteps := 3000000) only [Try.f16, scp, poRows_len, mRows_len, rowsOf_len, bytesOf_rows, hrow, hlt, h0, hrm, hjl, hj0, e1, hpl, wj, D.toI, D.toL, poRow, mlRow, ↓reduceIte, Bool.false_eq_true, tYs, evL, implies_true, oMin, x_max, oMax, oCopy, oBin, oUn, oLoadKid, oStoreTree, oField, oExtract, oNil, oSliceQ, oSliceE, x_appendZ, oAppendZ, oSliceEnd, endMode, oLoadRow, takeCells, TS.atRow, TS.ex, treeMode, AV.isOwn, TK.isSl, nilTk, nilsB, oLenQ, oLen, nodupB, treeOf, kidAbs, kidRows, TK.isCell, D.toL, oLoad, oStore, oMake, oIndexAddr, ↓reduceIte, reduceCtorEq, Nat.reduceBEq, Nat.reduceAdd, Nat.reduceMul, Nat.reduceLT, Nat.reduceSub, Nat.reduceLeDiff, Nat.reduceEqDiff, Nat.reduceBneDiff, Int.reduceToNat, decide_eq_true_eq, decide_eq_false_iff_not, beq_iff_eq, Int.toNat_natCast, loopK_normal, loopK_exit, loopK_ret]
        exact ⟨⟨by omega, by omega, rowsOf_w _⟩, rowsOf_flat _, ⟨by omega, by omega⟩, j + 1, [(0, some 0), (1, some _), (2, some _)], by omega, by omega, ⟨⟨⟨rfl, rfl, rfl⟩, trivial, trivial, ⟨rfl, rfl, rfl⟩, ⟨rfl, rfl, rfl⟩, ⟨rfl, rfl, rfl⟩, ⟨rfl, rfl, rfl⟩, fitT_rep _ _ rfl⟩, ⟨.inl rfl, rfl, rfl, rfl, .inl rfl, rfl, rfl, rfl, .inl rfl, rfl, rfl, rfl, trivial⟩, by simp [rn, hpAt]⟩, by simp [keepIds]⟩
      · have hjl : ((j : Int) < (l[k].row.length : Int)) = False := eq_false (by omega)
        obtain rfl : j = l[k].row.length := by omega
        have e1 : poRows (l.take k) ++ [poRow l[k]] = poRows (l.take (k + 1)) := by
          rw [take_one hk, ← poRows_app]; rfl
        have hpl : (poRows (l.take k)).length = k := by rw [poRows_len, List.length_take]; omega
        rw [poRow] at e1
        simp (maxSteps := 3000000) only [Try.f16, scp, poRows_len, mRows_len, rowsOf_len, bytesOf_rows, hrow, hlt, h0, hjl, List.take_length, e1, hpl, w2, D.toI, D.toL, poRow, mlRow, ↓reduceIte, Bool.false_eq_true, tYs, evL, implies_true, oMin, x_max, oMax, oCopy, oBin, oUn, oLoadKid, oStoreTree, oField, oExtract, oNil, oSliceQ, oSliceE, x_appendZ, oAppendZ, oSliceEnd, endMode, oLoadRow, takeCells, TS.atRow, TS.ex, treeMode, AV.isOwn, TK.isSl, nilTk, nilsB, oLenQ, oLen, nodupB, treeOf, kidAbs, kidRows, TK.isCell, D.toL, oLoad, oStore, oMake, oIndexAddr, ↓reduceIte, reduceCtorEq, Nat.reduceBEq, Nat.reduceAdd, Nat.reduceMul, Nat.reduceLT, Nat.reduceSub, Nat.reduceLeDiff, Nat.reduceEqDiff, Nat.reduceBneDiff, Int.reduceToNat, decide_eq_true_eq, decide_eq_false_iff_not, beq_iff_eq, Int.toNat_natCast, loopK_normal, loopK_exit, loopK_ret]
        exact ⟨⟨by omega, by omega⟩, k + 1, [(0, some _)], by omega, by omega, ⟨⟨⟨rfl, rfl, rfl⟩, trivial, trivial, ⟨rfl, rfl, rfl⟩, ⟨rfl, rfl, rfl⟩, fitT_rep _ _ rfl⟩, ⟨.inl rfl, rfl, rfl, rfl, trivial⟩, by simp [rn, hpAt]⟩, by simp [keepIds]⟩
    · have hlt : ((k : Int) < (l.length : Int)) = False := eq_false (by omega)
      simp (maxSteps := 3000000) only [Try.f16, scp, poRows_len, mRows_len, rowsOf_len, bytesOf_rows, hlt, D.toI, D.toL, poRow, mlRow, ↓reduceIte, Bool.false_eq_true, tYs, evL, implies_true, oMin, x_max, oMax, oCopy, oBin, oUn, oLoadKid, oStoreTree, oField, oExtract, oNil, oSliceQ, oSliceE, x_appendZ, oAppendZ, oSliceEnd, endMode, oLoadRow, takeCells, TS.atRow, TS.ex, treeMode, AV.isOwn, TK.isSl, nilTk, nilsB, oLenQ, oLen, nodupB, treeOf, kidAbs, kidRows, TK.isCell, D.toL, oLoad, oStore, oMake, oIndexAddr, ↓reduceIte, reduceCtorEq, Nat.reduceBEq, Nat.reduceAdd, Nat.reduceMul, Nat.reduceLT, Nat.reduceSub, Nat.reduceLeDiff, Nat.reduceEqDiff, Nat.reduceBneDiff, Int.reduceToNat, decide_eq_true_eq, decide_eq_false_iff_not, beq_iff_eq, Int.toNat_natCast, loopK_normal, loopK_exit, loopK_ret]
      obtain rfl : k = l.length := by omega
      rw [List.take_length]
      exact ⟨_, [(0, some _)], rfl, ⟨⟨⟨rfl, rfl, rfl⟩, trivial⟩, ⟨.inl rfl, rfl, rfl, rfl, trivial⟩, by simp [rn, hpAt]⟩⟩
  · cases hg
end Go.Proofs.Ytcpmifgdmlpcpaa
