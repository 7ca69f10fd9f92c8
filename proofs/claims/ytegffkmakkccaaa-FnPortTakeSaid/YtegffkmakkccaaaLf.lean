import Derived.Test.YtegffkmakkccaaaLe
set_option linter.unusedVariables false
set_option linter.unusedSimpArgs false
namespace Go.Proofs.Ytegffkmakkccaaa
open Go.RowKit
set_option linter.unusedSimpArgs false
def spo : List (FuncId × Abs) := [(65, pureAbs g_l1In), (139, pureAbs g_mailOk)]
theorem spo_ok : ∀ p ∈ spo, CallOk Try.prog p.1 p.2 := by
  intro p hp
  simp only [spo, List.mem_cons, List.not_mem_nil, or_false] at hp
  rcases hp with rfl | rfl
  · exact l1In_ok.call
  · exact specMailOk_ok.call
set_option maxHeartbeats 8000000 in
set_option maxRecDepth 100000 in
theorem specPortsOk_ok : PureOk Try.prog 86 g_portsOk := by
  refine PureOk.of_vc (G := spo) spo_ok mixed Try.func86 (by kernel_rfl) rfl ?_
  intro args cnd r bs hg hc
  unfold g_portsOk at hg
  split at hg
  · rename_i sz rows
    cases hg
    obtain ⟨l, rfl, hn, hd⟩ := hc
    rw [posOf_rows]
    refine ⟨⟨rfl, by simp, by simp [AV.ids, AV.ids.idsL]⟩, [.l 2 (poRows l)], rfl, fun w vs h => CvL.ok (.cons (.l _ _ _ (poRows_w l)) .nil) h, ?_⟩
    simp (maxSteps := 3000000) only [Try.f86, spo, poRows_len, tYs, evL, implies_true, oMin, oCopy, oBin, oUn, oLoadKid, oStoreTree, oField, oExtract, oNil, oSliceQ, oLoadRow, takeCells, TS.atRow, TS.ex, treeMode, AV.isOwn, TK.isSl, nilTk, nilsB, oLenQ, oLen, nodupB, treeOf, kidAbs, kidRows, TK.isCell, D.toL, oLoad, oStore, oMake, oIndexAddr, ↓reduceIte, reduceCtorEq, Nat.reduceBEq, Nat.reduceAdd, Nat.reduceMul, Nat.reduceLT, Nat.reduceSub, Nat.reduceLeDiff, Nat.reduceEqDiff, Nat.reduceBneDiff, Int.reduceToNat, decide_eq_true_eq, decide_eq_false_iff_not, beq_iff_eq, Int.toNat_natCast]
    refine e_loop _ _ _ _ _ _ _ _ (fun k : Nat => [.l 2 (poRows l), .any, .any, .v (.int .i64 (k : Int))] ++ List.replicate (Try.f86.ntmps - 4) .any) (fun k => []) (fun k => k ≤ l.length ∧ posK l k = true) (fun k => l.length - k) 0 (fun k => by simp) ?_ fun k hk' => ?_
    · exact ⟨0, [], ⟨Nat.zero_le _, rfl⟩, ⟨⟨⟨rfl, rfl, rfl⟩, trivial, trivial, ⟨rfl, rfl, rfl⟩, fitT_rep _ _ rfl⟩, trivial, by simp [rn, hpAt]⟩, by simp [keepIds]⟩
    obtain ⟨hk1, hk2⟩ := hk'
    have w2 : IntKind.i64.wrap ((k : Int) + 1) = ((k + 1 : Nat) : Int) := by rw [wrap_id] <;> omega
    by_cases hk : k < l.length
    · have hrow := poRows_get l k hk
      have hlt : ((k : Int) < (l.length : Int)) = True := eq_true (by omega)
      have h0 : (0 ≤ (k : Int)) = True := eq_true (by omega)
      have hx := hd l[k] (List.getElem_mem hk)
      have hxl := hx.1
      have hst : poStep l k = (poB l[k] && (decide (k = 0) || decide ((l.getD (k - 1) po0).n < l[k].n))) := by rw [poStep, po_get hk]
      cases k with
      | zero =>
        have hz : (((0 : Nat) : Int) > 0) = False := eq_false (by omega)
        rw [decide_eq_true rfl, Bool.true_or, Bool.and_true] at hst
        have hNo : (l[0].row.all fun m => mlB m && decide (m.t = l[0].n)) = false → posB l = false := fun h => posB_no hk (by rw [hst, poB, h, Bool.and_false]; try rfl)
        rcases h1 : inZ l[0].n 1 255 with _ | _
        · have hno := posB_no hk (by rw [hst, poB, h1]; rfl)
          simp (maxSteps := 3000000) only [Try.f86, spo, poRows_len, mRows_len, g_l1In, g_mailOk, rowsOf_len, bytesOf_rows, hrow, hlt, h0, h1, D.toI, D.toL, poRow, mlRow, Bool.not_true, Bool.not_false, ↓reduceIte, Bool.false_eq_true, tYs, evL, implies_true, oMin, oCopy, oBin, oUn, oLoadKid, oStoreTree, oField, oExtract, oNil, oSliceQ, oLoadRow, takeCells, TS.atRow, TS.ex, treeMode, AV.isOwn, TK.isSl, nilTk, nilsB, oLenQ, oLen, nodupB, treeOf, kidAbs, kidRows, TK.isCell, D.toL, oLoad, oStore, oMake, oIndexAddr, ↓reduceIte, reduceCtorEq, Nat.reduceBEq, Nat.reduceAdd, Nat.reduceMul, Nat.reduceLT, Nat.reduceSub, Nat.reduceLeDiff, Nat.reduceEqDiff, Nat.reduceBneDiff, Int.reduceToNat, decide_eq_true_eq, decide_eq_false_iff_not, beq_iff_eq, Int.toNat_natCast, loopK_normal, loopK_exit, loopK_ret]
          rw [hno]
          exact ⟨by kernel_rfl, _, [], rfl, ⟨⟨⟨rfl, rfl, rfl⟩, trivial⟩, trivial, by simp [rn, hpAt]⟩⟩
        by_cases h3 : l[0].row.length ≤ 3
        · have h3c : ((l[0].row.length : Int) > 3) = False := eq_false (by omega)
          have hYes : (l[0].row.all fun m => mlB m && decide (m.t = l[0].n)) = true → poStep l (0) = true := fun h => by rw [hst, poB, h1, decide_eq_true h3, h]; try rfl
          simp (maxSteps := 3000000) only [Try.f86, spo, poRows_len, mRows_len, g_l1In, g_mailOk, rowsOf_len, bytesOf_rows, hrow, hlt, h0, hz, h1, h3c, D.toI, D.toL, poRow, mlRow, Bool.not_true, Bool.not_false, ↓reduceIte, Bool.false_eq_true, tYs, evL, implies_true, oMin, oCopy, oBin, oUn, oLoadKid, oStoreTree, oField, oExtract, oNil, oSliceQ, oLoadRow, takeCells, TS.atRow, TS.ex, treeMode, AV.isOwn, TK.isSl, nilTk, nilsB, oLenQ, oLen, nodupB, treeOf, kidAbs, kidRows, TK.isCell, D.toL, oLoad, oStore, oMake, oIndexAddr, ↓reduceIte, reduceCtorEq, Nat.reduceBEq, Nat.reduceAdd, Nat.reduceMul, Nat.reduceLT, Nat.reduceSub, Nat.reduceLeDiff, Nat.reduceEqDiff, Nat.reduceBneDiff, Int.reduceToNat, decide_eq_true_eq, decide_eq_false_iff_not, beq_iff_eq, Int.toNat_natCast, loopK_normal, loopK_exit, loopK_ret]
          refine ⟨by kernel_rfl, ?_⟩
          refine e_loop _ _ _ _ _ _ _ _ (fun j : Nat => [.l 2 (poRows l), .any, .any, .v (.int .i64 ((0 : Nat) : Int)), .v (.int .i64 (j : Int))] ++ List.replicate (Try.f86.ntmps - 5) .any) (fun j => []) (fun j => j ≤ l[0].row.length ∧ ((l[0].row.take j).all fun m => mlB m && decide (m.t = l[0].n)) = true) (fun j => l[0].row.length - j) 0 (fun j => by simp) ?_ fun j hj' => ?_
          · exact ⟨0, [], ⟨Nat.zero_le _, rfl⟩, ⟨⟨⟨rfl, rfl, rfl⟩, trivial, trivial, ⟨rfl, rfl, rfl⟩, ⟨rfl, rfl, rfl⟩, fitT_rep _ _ rfl⟩, trivial, by simp [rn, hpAt]⟩, by simp [keepIds]⟩
          obtain ⟨hj1, hj2⟩ := hj'
          have w2 : IntKind.i64.wrap ((j : Int) + 1) = ((j + 1 : Nat) : Int) := by rw [wrap_id] <;> omega
          have hK1 : IntKind.i64.wrap (((0 : Nat) : Int) + 1) = ((0 + 1 : Nat) : Int) := by rw [wrap_id] <;> omega
          by_cases hj : j < l[0].row.length
          · have hrm := mRows_get l[0].row j hj
            have hjl : ((j : Int) < (l[0].row.length : Int)) = True := eq_true (by omega)
            have hj0 : (0 ≤ (j : Int)) = True := eq_true (by omega)
            have hKm := mlK_of l[0].row[j].a l[0].row[j].f l[0].row[j].t l[0].row[j].d
            rcases g1 : mlB l[0].row[j] with _ | _
            · have hno := hNo (mls_no (n := l[0].n) hj (by rw [g1]; rfl))
              simp (maxSteps := 3000000) only [Try.f86, spo, poRows_len, mRows_len, g_l1In, g_mailOk, rowsOf_len, bytesOf_rows, hrow, hlt, h0, hK1, hrm, hjl, hj0, hKm, g1, D.toI, D.toL, poRow, mlRow, Bool.not_true, Bool.not_false, ↓reduceIte, Bool.false_eq_true, tYs, evL, implies_true, oMin, oCopy, oBin, oUn, oLoadKid, oStoreTree, oField, oExtract, oNil, oSliceQ, oLoadRow, takeCells, TS.atRow, TS.ex, treeMode, AV.isOwn, TK.isSl, nilTk, nilsB, oLenQ, oLen, nodupB, treeOf, kidAbs, kidRows, TK.isCell, D.toL, oLoad, oStore, oMake, oIndexAddr, ↓reduceIte, reduceCtorEq, Nat.reduceBEq, Nat.reduceAdd, Nat.reduceMul, Nat.reduceLT, Nat.reduceSub, Nat.reduceLeDiff, Nat.reduceEqDiff, Nat.reduceBneDiff, Int.reduceToNat, decide_eq_true_eq, decide_eq_false_iff_not, beq_iff_eq, Int.toNat_natCast, loopK_normal, loopK_exit, loopK_ret]
              rw [hno]
              exact ⟨by kernel_rfl, _, [], rfl, ⟨⟨⟨rfl, rfl, rfl⟩, trivial⟩, trivial, by simp [rn, hpAt]⟩⟩
            · by_cases g2 : l[0].row[j].t = l[0].n
              · have g2b : (l[0].row[j].t != l[0].n) = false := by simp [g2]
                simp (maxSteps := 3000000) only [Try.f86, spo, poRows_len, mRows_len, g_l1In, g_mailOk, rowsOf_len, bytesOf_rows, hrow, hlt, h0, hK1, hrm, hjl, hj0, hKm, g1, g2b, w2, D.toI, D.toL, poRow, mlRow, Bool.not_true, Bool.not_false, ↓reduceIte, Bool.false_eq_true, tYs, evL, implies_true, oMin, oCopy, oBin, oUn, oLoadKid, oStoreTree, oField, oExtract, oNil, oSliceQ, oLoadRow, takeCells, TS.atRow, TS.ex, treeMode, AV.isOwn, TK.isSl, nilTk, nilsB, oLenQ, oLen, nodupB, treeOf, kidAbs, kidRows, TK.isCell, D.toL, oLoad, oStore, oMake, oIndexAddr, ↓reduceIte, reduceCtorEq, Nat.reduceBEq, Nat.reduceAdd, Nat.reduceMul, Nat.reduceLT, Nat.reduceSub, Nat.reduceLeDiff, Nat.reduceEqDiff, Nat.reduceBneDiff, Int.reduceToNat, decide_eq_true_eq, decide_eq_false_iff_not, beq_iff_eq, Int.toNat_natCast, loopK_normal, loopK_exit, loopK_ret]
                exact ⟨by kernel_rfl, j + 1, [], ⟨by omega, all_take hj hj2 (by rw [g1, decide_eq_true g2]; rfl)⟩, by omega, ⟨⟨⟨rfl, rfl, rfl⟩, trivial, trivial, ⟨rfl, rfl, rfl⟩, ⟨rfl, rfl, rfl⟩, fitT_rep _ _ rfl⟩, trivial, by simp [rn, hpAt]⟩, by simp [keepIds]⟩
              · have g2b : (l[0].row[j].t != l[0].n) = true := by simp [g2]
                have hno := hNo (mls_no (n := l[0].n) hj (by rw [decide_eq_false g2, Bool.and_false]))
                simp (maxSteps := 3000000) only [Try.f86, spo, poRows_len, mRows_len, g_l1In, g_mailOk, rowsOf_len, bytesOf_rows, hrow, hlt, h0, hK1, hrm, hjl, hj0, hKm, g1, g2b, D.toI, D.toL, poRow, mlRow, Bool.not_true, Bool.not_false, ↓reduceIte, Bool.false_eq_true, tYs, evL, implies_true, oMin, oCopy, oBin, oUn, oLoadKid, oStoreTree, oField, oExtract, oNil, oSliceQ, oLoadRow, takeCells, TS.atRow, TS.ex, treeMode, AV.isOwn, TK.isSl, nilTk, nilsB, oLenQ, oLen, nodupB, treeOf, kidAbs, kidRows, TK.isCell, D.toL, oLoad, oStore, oMake, oIndexAddr, ↓reduceIte, reduceCtorEq, Nat.reduceBEq, Nat.reduceAdd, Nat.reduceMul, Nat.reduceLT, Nat.reduceSub, Nat.reduceLeDiff, Nat.reduceEqDiff, Nat.reduceBneDiff, Int.reduceToNat, decide_eq_true_eq, decide_eq_false_iff_not, beq_iff_eq, Int.toNat_natCast, loopK_normal, loopK_exit, loopK_ret]
                rw [hno]
                exact ⟨by kernel_rfl, _, [], rfl, ⟨⟨⟨rfl, rfl, rfl⟩, trivial⟩, trivial, by simp [rn, hpAt]⟩⟩
          · have hjl : ((j : Int) < (l[0].row.length : Int)) = False := eq_false (by omega)
            rw [List.take_of_length_le (by omega)] at hj2
            simp (maxSteps := 3000000) only [Try.f86, spo, poRows_len, mRows_len, g_l1In, g_mailOk, rowsOf_len, bytesOf_rows, hrow, hlt, h0, hK1, hjl, D.toI, D.toL, poRow, mlRow, Bool.not_true, Bool.not_false, ↓reduceIte, Bool.false_eq_true, tYs, evL, implies_true, oMin, oCopy, oBin, oUn, oLoadKid, oStoreTree, oField, oExtract, oNil, oSliceQ, oLoadRow, takeCells, TS.atRow, TS.ex, treeMode, AV.isOwn, TK.isSl, nilTk, nilsB, oLenQ, oLen, nodupB, treeOf, kidAbs, kidRows, TK.isCell, D.toL, oLoad, oStore, oMake, oIndexAddr, ↓reduceIte, reduceCtorEq, Nat.reduceBEq, Nat.reduceAdd, Nat.reduceMul, Nat.reduceLT, Nat.reduceSub, Nat.reduceLeDiff, Nat.reduceEqDiff, Nat.reduceBneDiff, Int.reduceToNat, decide_eq_true_eq, decide_eq_false_iff_not, beq_iff_eq, Int.toNat_natCast, loopK_normal, loopK_exit, loopK_ret]
            exact ⟨0 + 1, [], ⟨by omega, posK_yes hk hk2 (hYes hj2)⟩, by omega, ⟨⟨⟨rfl, rfl, rfl⟩, trivial, trivial, ⟨rfl, rfl, rfl⟩, fitT_rep _ _ rfl⟩, trivial, by simp [rn, hpAt]⟩, by simp [keepIds]⟩
        · have h3c : ((l[0].row.length : Int) > 3) = True := eq_true (by omega)
          have hno := posB_no hk (by rw [hst, poB, decide_eq_false h3, Bool.and_false]; rfl)
          simp (maxSteps := 3000000) only [Try.f86, spo, poRows_len, mRows_len, g_l1In, g_mailOk, rowsOf_len, bytesOf_rows, hrow, hlt, h0, hz, h1, h3c, D.toI, D.toL, poRow, mlRow, Bool.not_true, Bool.not_false, ↓reduceIte, Bool.false_eq_true, tYs, evL, implies_true, oMin, oCopy, oBin, oUn, oLoadKid, oStoreTree, oField, oExtract, oNil, oSliceQ, oLoadRow, takeCells, TS.atRow, TS.ex, treeMode, AV.isOwn, TK.isSl, nilTk, nilsB, oLenQ, oLen, nodupB, treeOf, kidAbs, kidRows, TK.isCell, D.toL, oLoad, oStore, oMake, oIndexAddr, ↓reduceIte, reduceCtorEq, Nat.reduceBEq, Nat.reduceAdd, Nat.reduceMul, Nat.reduceLT, Nat.reduceSub, Nat.reduceLeDiff, Nat.reduceEqDiff, Nat.reduceBneDiff, Int.reduceToNat, decide_eq_true_eq, decide_eq_false_iff_not, beq_iff_eq, Int.toNat_natCast, loopK_normal, loopK_exit, loopK_ret]
          rw [hno]
          exact ⟨by kernel_rfl, _, [], rfl, ⟨⟨⟨rfl, rfl, rfl⟩, trivial⟩, trivial, by simp [rn, hpAt]⟩⟩
      | succ q =>
        have wp : IntKind.i64.wrap (((q + 1 : Nat) : Int) - 1) = (q : Int) := by rw [wrap_id] <;> omega
        have hj : q < l.length := by omega
        have hrj := poRows_get l q hj
        have hjlt : ((q : Int) < (l.length : Int)) = True := eq_true (by omega)
        have h0j : (0 ≤ (q : Int)) = True := eq_true (by omega)
        have hgt : (((q + 1 : Nat) : Int) > 0) = True := eq_true (by omega)
        rw [decide_eq_false (by omega), Bool.false_or, Nat.add_sub_cancel, po_get hj] at hst
        have hNo : (l[q + 1].row.all fun m => mlB m && decide (m.t = l[q + 1].n)) = false → posB l = false := fun h => posB_no hk (by rw [hst, poB, h, Bool.and_false]; try rfl)
        rcases h1 : inZ l[q + 1].n 1 255 with _ | _
        · have hno := posB_no hk (by rw [hst, poB, h1]; rfl)
          simp (maxSteps := 3000000) only [Try.f86, spo, poRows_len, mRows_len, g_l1In, g_mailOk, rowsOf_len, bytesOf_rows, hrow, hlt, h0, h1, D.toI, D.toL, poRow, mlRow, Bool.not_true, Bool.not_false, ↓reduceIte, Bool.false_eq_true, tYs, evL, implies_true, oMin, oCopy, oBin, oUn, oLoadKid, oStoreTree, oField, oExtract, oNil, oSliceQ, oLoadRow, takeCells, TS.atRow, TS.ex, treeMode, AV.isOwn, TK.isSl, nilTk, nilsB, oLenQ, oLen, nodupB, treeOf, kidAbs, kidRows, TK.isCell, D.toL, oLoad, oStore, oMake, oIndexAddr, ↓reduceIte, reduceCtorEq, Nat.reduceBEq, Nat.reduceAdd, Nat.reduceMul, Nat.reduceLT, Nat.reduceSub, Nat.reduceLeDiff, Nat.reduceEqDiff, Nat.reduceBneDiff, Int.reduceToNat, decide_eq_true_eq, decide_eq_false_iff_not, beq_iff_eq, Int.toNat_natCast, loopK_normal, loopK_exit, loopK_ret]
          rw [hno]
          exact ⟨by kernel_rfl, _, [], rfl, ⟨⟨⟨rfl, rfl, rfl⟩, trivial⟩, trivial, by simp [rn, hpAt]⟩⟩
        by_cases h2 : l[q].n < l[q + 1].n
        rotate_left
        · have hle : (l[q].n ≥ l[q + 1].n) = True := eq_true (by omega)
          have hno := posB_no hk (by rw [hst, decide_eq_false h2, Bool.and_false])
          simp (maxSteps := 3000000) only [Try.f86, spo, poRows_len, mRows_len, g_l1In, g_mailOk, rowsOf_len, bytesOf_rows, hrow, hlt, h0, hgt, wp, hrj, hjlt, h0j, hle, h1, D.toI, D.toL, poRow, mlRow, Bool.not_true, Bool.not_false, ↓reduceIte, Bool.false_eq_true, tYs, evL, implies_true, oMin, oCopy, oBin, oUn, oLoadKid, oStoreTree, oField, oExtract, oNil, oSliceQ, oLoadRow, takeCells, TS.atRow, TS.ex, treeMode, AV.isOwn, TK.isSl, nilTk, nilsB, oLenQ, oLen, nodupB, treeOf, kidAbs, kidRows, TK.isCell, D.toL, oLoad, oStore, oMake, oIndexAddr, ↓reduceIte, reduceCtorEq, Nat.reduceBEq, Nat.reduceAdd, Nat.reduceMul, Nat.reduceLT, Nat.reduceSub, Nat.reduceLeDiff, Nat.reduceEqDiff, Nat.reduceBneDiff, Int.reduceToNat, decide_eq_true_eq, decide_eq_false_iff_not, beq_iff_eq, Int.toNat_natCast, loopK_normal, loopK_exit, loopK_ret]
          rw [hno]
          exact ⟨by kernel_rfl, _, [], rfl, ⟨⟨⟨rfl, rfl, rfl⟩, trivial⟩, trivial, by simp [rn, hpAt]⟩⟩
        have hle : (l[q].n ≥ l[q + 1].n) = False := eq_false (by omega)
        rw [decide_eq_true h2, Bool.and_true] at hst
        by_cases h3 : l[q + 1].row.length ≤ 3
        · have h3c : ((l[q + 1].row.length : Int) > 3) = False := eq_false (by omega)
          have hYes : (l[q + 1].row.all fun m => mlB m && decide (m.t = l[q + 1].n)) = true → poStep l (q + 1) = true := fun h => by rw [hst, poB, h1, decide_eq_true h3, h]; try rfl
          simp (maxSteps := 3000000) only [Try.f86, spo, poRows_len, mRows_len, g_l1In, g_mailOk, rowsOf_len, bytesOf_rows, hrow, hlt, h0, hgt, wp, hrj, hjlt, h0j, hle, h1, h3c, D.toI, D.toL, poRow, mlRow, Bool.not_true, Bool.not_false, ↓reduceIte, Bool.false_eq_true, tYs, evL, implies_true, oMin, oCopy, oBin, oUn, oLoadKid, oStoreTree, oField, oExtract, oNil, oSliceQ, oLoadRow, takeCells, TS.atRow, TS.ex, treeMode, AV.isOwn, TK.isSl, nilTk, nilsB, oLenQ, oLen, nodupB, treeOf, kidAbs, kidRows, TK.isCell, D.toL, oLoad, oStore, oMake, oIndexAddr, ↓reduceIte, reduceCtorEq, Nat.reduceBEq, Nat.reduceAdd, Nat.reduceMul, Nat.reduceLT, Nat.reduceSub, Nat.reduceLeDiff, Nat.reduceEqDiff, Nat.reduceBneDiff, Int.reduceToNat, decide_eq_true_eq, decide_eq_false_iff_not, beq_iff_eq, Int.toNat_natCast, loopK_normal, loopK_exit, loopK_ret]
          refine ⟨by kernel_rfl, ?_⟩
          refine e_loop _ _ _ _ _ _ _ _ (fun j : Nat => [.l 2 (poRows l), .any, .any, .v (.int .i64 ((q + 1 : Nat) : Int)), .v (.int .i64 (j : Int))] ++ List.replicate (Try.f86.ntmps - 5) .any) (fun j => []) (fun j => j ≤ l[q + 1].row.length ∧ ((l[q + 1].row.take j).all fun m => mlB m && decide (m.t = l[q + 1].n)) = true) (fun j => l[q + 1].row.length - j) 0 (fun j => by simp) ?_ fun j hj' => ?_
          · exact ⟨0, [], ⟨Nat.zero_le _, rfl⟩, ⟨⟨⟨rfl, rfl, rfl⟩, trivial, trivial, ⟨rfl, rfl, rfl⟩, ⟨rfl, rfl, rfl⟩, fitT_rep _ _ rfl⟩, trivial, by simp [rn, hpAt]⟩, by simp [keepIds]⟩
          obtain ⟨hj1, hj2⟩ := hj'
          have w2 : IntKind.i64.wrap ((j : Int) + 1) = ((j + 1 : Nat) : Int) := by rw [wrap_id] <;> omega
          have hK1 : IntKind.i64.wrap (((q + 1 : Nat) : Int) + 1) = ((q + 1 + 1 : Nat) : Int) := by rw [wrap_id] <;> omega
          by_cases hj : j < l[q + 1].row.length
          · have hrm := mRows_get l[q + 1].row j hj
            have hjl : ((j : Int) < (l[q + 1].row.length : Int)) = True := eq_true (by omega)
            have hj0 : (0 ≤ (j : Int)) = True := eq_true (by omega)
            have hKm := mlK_of l[q + 1].row[j].a l[q + 1].row[j].f l[q + 1].row[j].t l[q + 1].row[j].d
            rcases g1 : mlB l[q + 1].row[j] with _ | _
            · have hno := hNo (mls_no (n := l[q + 1].n) hj (by rw [g1]; rfl))
              simp (maxSteps := 3000000) only [Try.f86, spo, poRows_len, mRows_len, g_l1In, g_mailOk, rowsOf_len, bytesOf_rows, hrow, hlt, h0, hK1, hrm, hjl, hj0, hKm, g1, D.toI, D.toL, poRow, mlRow, Bool.not_true, Bool.not_false, ↓reduceIte, Bool.false_eq_true, tYs, evL, implies_true, oMin, oCopy, oBin, oUn, oLoadKid, oStoreTree, oField, oExtract, oNil, oSliceQ, oLoadRow, takeCells, TS.atRow, TS.ex, treeMode, AV.isOwn, TK.isSl, nilTk, nilsB, oLenQ, oLen, nodupB, treeOf, kidAbs, kidRows, TK.isCell, D.toL, oLoad, oStore, oMake, oIndexAddr, ↓reduceIte, reduceCtorEq, Nat.reduceBEq, Nat.reduceAdd, Nat.reduceMul, Nat.reduceLT, Nat.reduceSub, Nat.reduceLeDiff, Nat.reduceEqDiff, Nat.reduceBneDiff, Int.reduceToNat, decide_eq_true_eq, decide_eq_false_iff_not, beq_iff_eq, Int.toNat_natCast, loopK_normal, loopK_exit, loopK_ret]
              rw [hno]
              exact ⟨by kernel_rfl, _, [], rfl, ⟨⟨⟨rfl, rfl, rfl⟩, trivial⟩, trivial, by simp [rn, hpAt]⟩⟩
            · by_cases g2 : l[q + 1].row[j].t = l[q + 1].n
              · have g2b : (l[q + 1].row[j].t != l[q + 1].n) = false := by simp [g2]
                simp (maxSteps := 3000000) only [Try.f86, spo, poRows_len, mRows_len, g_l1In, g_mailOk, rowsOf_len, bytesOf_rows, hrow, hlt, h0, hK1, hrm, hjl, hj0, hKm, g1, g2b, w2, D.toI, D.toL, poRow, mlRow, Bool.not_true, Bool.not_false, ↓reduceIte, Bool.false_eq_true, tYs, evL, implies_true, oMin, oCopy, oBin, oUn, oLoadKid, oStoreTree, oField, oExtract, oNil, oSliceQ, oLoadRow, takeCells, TS.atRow, TS.ex, treeMode, AV.isOwn, TK.isSl, nilTk, nilsB, oLenQ, oLen, nodupB, treeOf, kidAbs, kidRows, TK.isCell, D.toL, oLoad, oStore, oMake, oIndexAddr, ↓reduceIte, reduceCtorEq, Nat.reduceBEq, Nat.reduceAdd, Nat.reduceMul, Nat.reduceLT, Nat.reduceSub, Nat.reduceLeDiff, Nat.reduceEqDiff, Nat.reduceBneDiff, Int.reduceToNat, decide_eq_true_eq, decide_eq_false_iff_not, beq_iff_eq, Int.toNat_natCast, loopK_normal, loopK_exit, loopK_ret]
                exact ⟨by kernel_rfl, j + 1, [], ⟨by omega, all_take hj hj2 (by rw [g1, decide_eq_true g2]; rfl)⟩, by omega, ⟨⟨⟨rfl, rfl, rfl⟩, trivial, trivial, ⟨rfl, rfl, rfl⟩, ⟨rfl, rfl, rfl⟩, fitT_rep _ _ rfl⟩, trivial, by simp [rn, hpAt]⟩, by simp [keepIds]⟩
              · have g2b : (l[q + 1].row[j].t != l[q + 1].n) = true := by simp [g2]
                have hno := hNo (mls_no (n := l[q + 1].n) hj (by rw [decide_eq_false g2, Bool.and_false]))
                simp (maxSteps := 3000000) only [Try.f86, spo, poRows_len, mRows_len, g_l1In, g_mailOk, rowsOf_len, bytesOf_rows, hrow, hlt, h0, hK1, hrm, hjl, hj0, hKm, g1, g2b, D.toI, D.toL, poRow, mlRow, Bool.not_true, Bool.not_false, ↓reduceIte, Bool.false_eq_true, tYs, evL, implies_true, oMin, oCopy, oBin, oUn, oLoadKid, oStoreTree, oField, oExtract, oNil, oSliceQ, oLoadRow, takeCells, TS.atRow, TS.ex, treeMode, AV.isOwn, TK.isSl, nilTk, nilsB, oLenQ, oLen, nodupB, treeOf, kidAbs, kidRows, TK.isCell, D.toL, oLoad, oStore, oMake, oIndexAddr, ↓reduceIte, reduceCtorEq, Nat.reduceBEq, Nat.reduceAdd, Nat.reduceMul, Nat.reduceLT, Nat.reduceSub, Nat.reduceLeDiff, Nat.reduceEqDiff, Nat.reduceBneDiff, Int.reduceToNat, decide_eq_true_eq, decide_eq_false_iff_not, beq_iff_eq, Int.toNat_natCast, loopK_normal, loopK_exit, loopK_ret]
                rw [hno]
                exact ⟨by kernel_rfl, _, [], rfl, ⟨⟨⟨rfl, rfl, rfl⟩, trivial⟩, trivial, by simp [rn, hpAt]⟩⟩
          · have hjl : ((j : Int) < (l[q + 1].row.length : Int)) = False := eq_false (by omega)
            rw [List.take_of_length_le (by omega)] at hj2
            simp (maxSteps := 3000000) only [Try.f86, spo, poRows_len, mRows_len, g_l1In, g_mailOk, rowsOf_len, bytesOf_rows, hrow, hlt, h0, hK1, hjl, D.toI, D.toL, poRow, mlRow, Bool.not_true, Bool.not_false, ↓reduceIte, Bool.false_eq_true, tYs, evL, implies_true, oMin, oCopy, oBin, oUn, oLoadKid, oStoreTree, oField, oExtract, oNil, oSliceQ, oLoadRow, takeCells, TS.atRow, TS.ex, treeMode, AV.isOwn, TK.isSl, nilTk, nilsB, oLenQ, oLen, nodupB, treeOf, kidAbs, kidRows, TK.isCell, D.toL, oLoad, oStore, oMake, oIndexAddr, ↓reduceIte, reduceCtorEq, Nat.reduceBEq, Nat.reduceAdd, Nat.reduceMul, Nat.reduceLT, Nat.reduceSub, Nat.reduceLeDiff, Nat.reduceEqDiff, Nat.reduceBneDiff, Int.reduceToNat, decide_eq_true_eq, decide_eq_false_iff_not, beq_iff_eq, Int.toNat_natCast, loopK_normal, loopK_exit, loopK_ret]
            exact ⟨q + 1 + 1, [], ⟨by omega, posK_yes hk hk2 (hYes hj2)⟩, by omega, ⟨⟨⟨rfl, rfl, rfl⟩, trivial, trivial, ⟨rfl, rfl, rfl⟩, fitT_rep _ _ rfl⟩, trivial, by simp [rn, hpAt]⟩, by simp [keepIds]⟩
        · have h3c : ((l[q + 1].row.length : Int) > 3) = True := eq_true (by omega)
          have hno := posB_no hk (by rw [hst, poB, decide_eq_false h3, Bool.and_false]; rfl)
          simp (maxSteps := 3000000) only [Try.f86, spo, poRows_len, mRows_len, g_l1In, g_mailOk, rowsOf_len, bytesOf_rows, hrow, hlt, h0, hgt, wp, hrj, hjlt, h0j, hle, h1, h3c, D.toI, D.toL, poRow, mlRow, Bool.not_true, Bool.not_false, ↓reduceIte, Bool.false_eq_true, tYs, evL, implies_true, oMin, oCopy, oBin, oUn, oLoadKid, oStoreTree, oField, oExtract, oNil, oSliceQ, oLoadRow, takeCells, TS.atRow, TS.ex, treeMode, AV.isOwn, TK.isSl, nilTk, nilsB, oLenQ, oLen, nodupB, treeOf, kidAbs, kidRows, TK.isCell, D.toL, oLoad, oStore, oMake, oIndexAddr, ↓reduceIte, reduceCtorEq, Nat.reduceBEq, Nat.reduceAdd, Nat.reduceMul, Nat.reduceLT, Nat.reduceSub, Nat.reduceLeDiff, Nat.reduceEqDiff, Nat.reduceBneDiff, Int.reduceToNat, decide_eq_true_eq, decide_eq_false_iff_not, beq_iff_eq, Int.toNat_natCast, loopK_normal, loopK_exit, loopK_ret]
          rw [hno]
          exact ⟨by kernel_rfl, _, [], rfl, ⟨⟨⟨rfl, rfl, rfl⟩, trivial⟩, trivial, by simp [rn, hpAt]⟩⟩
    · have hlt : ((k : Int) < (l.length : Int)) = False := eq_false (by omega)
      simp (maxSteps := 3000000) only [Try.f86, spo, poRows_len, mRows_len, g_l1In, g_mailOk, rowsOf_len, bytesOf_rows, hlt, D.toI, D.toL, poRow, mlRow, Bool.not_true, Bool.not_false, ↓reduceIte, Bool.false_eq_true, tYs, evL, implies_true, oMin, oCopy, oBin, oUn, oLoadKid, oStoreTree, oField, oExtract, oNil, oSliceQ, oLoadRow, takeCells, TS.atRow, TS.ex, treeMode, AV.isOwn, TK.isSl, nilTk, nilsB, oLenQ, oLen, nodupB, treeOf, kidAbs, kidRows, TK.isCell, D.toL, oLoad, oStore, oMake, oIndexAddr, ↓reduceIte, reduceCtorEq, Nat.reduceBEq, Nat.reduceAdd, Nat.reduceMul, Nat.reduceLT, Nat.reduceSub, Nat.reduceLeDiff, Nat.reduceEqDiff, Nat.reduceBneDiff, Int.reduceToNat, decide_eq_true_eq, decide_eq_false_iff_not, beq_iff_eq, Int.toNat_natCast, loopK_normal, loopK_exit, loopK_ret]
      obtain rfl : k = l.length := by omega
      by_cases h4 : l.length ≤ 4
      · have h4c : ((l.length : Int) ≤ 4) = True := eq_true (by omega)
        rw [posK_all hk2 h4]
        have e : decide ((l.length : Int) ≤ 4) = true := decide_eq_true (by omega)
        rw [e]
        exact ⟨_, [], rfl, ⟨⟨⟨rfl, rfl, rfl⟩, trivial⟩, trivial, by simp [rn, hpAt]⟩⟩
      · have e : decide ((l.length : Int) ≤ 4) = false := decide_eq_false (by omega)
        rw [e, posB, decide_eq_false h4, Bool.false_and, Bool.false_and]
        exact ⟨_, [], rfl, ⟨⟨⟨rfl, rfl, rfl⟩, trivial⟩, trivial, by simp [rn, hpAt]⟩⟩
  · cases hg
set_option maxRecDepth 100000 in
theorem l9At_ok : PureOk Try.prog 88 g_portAt := by
  refine PureOk.of_vc (G := []) (by simp) mixed Try.func88 (by kernel_rfl) rfl ?_
  intro args cnd r bs hg hc
  unfold g_portAt at hg
  split at hg
  · rename_i sz rows x
    cases hg
    obtain ⟨l, rfl, hn⟩ := hc
    rw [posOf_rows]
    refine ⟨⟨rfl, by simp, by simp [AV.ids, AV.ids.idsL]⟩, [.l 2 (poRows l), .v (.int .i64 x)], rfl, fun w vs h => CvL.ok (.cons (.l _ _ _ (poRows_w l)) (.cons (.refl _) .nil)) h, ?_⟩
    simp (maxSteps := 3000000) only [Try.f88, poRows_len, tYs, evL, implies_true, oMin, oCopy, oBin, oUn, oLoadKid, oStoreTree, oField, oExtract, oNil, oSliceQ, oLoadRow, takeCells, TS.atRow, TS.ex, treeMode, AV.isOwn, TK.isSl, nilTk, nilsB, oLenQ, oLen, nodupB, treeOf, kidAbs, kidRows, TK.isCell, D.toL, oLoad, oStore, oMake, oIndexAddr, ↓reduceIte, reduceCtorEq, Nat.reduceBEq, Nat.reduceAdd, Nat.reduceMul, Nat.reduceLT, Nat.reduceSub, Nat.reduceLeDiff, Nat.reduceEqDiff, Nat.reduceBneDiff, Int.reduceToNat, decide_eq_true_eq, decide_eq_false_iff_not, beq_iff_eq, Int.toNat_natCast]
    refine e_loop _ _ _ _ _ _ _ _ (fun k : Nat => [.l 2 (poRows l), .v (.int .i64 x), .any, .any, .any, .v (.int .i64 (k : Int))] ++ List.replicate (Try.f88.ntmps - 6) .any) (fun k => []) (fun k => k ≤ l.length ∧ ∀ j, j < k → (l.getD j po0).n ≠ x) (fun k => l.length - k) 0 (fun k => by simp) ?_ fun k hk' => ?_
    · exact ⟨0, [], ⟨Nat.zero_le _, fun j hj => by omega⟩, ⟨⟨⟨rfl, rfl, rfl⟩, ⟨rfl, rfl, rfl⟩, trivial, trivial, trivial, ⟨rfl, rfl, rfl⟩, fitT_rep _ _ rfl⟩, trivial, by simp [rn, hpAt]⟩, by simp [keepIds]⟩
    obtain ⟨hk1, hk2⟩ := hk'
    have w2 : IntKind.i64.wrap ((k : Int) + 1) = ((k + 1 : Nat) : Int) := by rw [wrap_id] <;> omega
    by_cases hk : k < l.length
    · have hrow := poRows_get l k hk
      have hlt : ((k : Int) < (l.length : Int)) = True := eq_true (by omega)
      have h0 : (0 ≤ (k : Int)) = True := eq_true (by omega)
      by_cases h1 : l[k].n = x
      · have h1b : (l[k].n == x) = true := beq_iff_eq.2 h1
        have h1c : (l[k].n = x) = True := eq_true h1
        simp (maxSteps := 3000000) only [Try.f88, mRows_len, poRows_len, mRows_len, rowsOf_len, bytesOf_rows, msOf_rows, posOf_rows, hrow, hlt, h0, h1b, h1c, D.toI, D.toL, poRow, tYs, evL, implies_true, oMin, oCopy, oBin, oUn, oLoadKid, oStoreTree, oField, oExtract, oNil, oSliceQ, oLoadRow, takeCells, TS.atRow, TS.ex, treeMode, AV.isOwn, TK.isSl, nilTk, nilsB, oLenQ, oLen, nodupB, treeOf, kidAbs, kidRows, TK.isCell, D.toL, oLoad, oStore, oMake, oIndexAddr, ↓reduceIte, reduceCtorEq, Nat.reduceBEq, Nat.reduceAdd, Nat.reduceMul, Nat.reduceLT, Nat.reduceSub, Nat.reduceLeDiff, Nat.reduceEqDiff, Nat.reduceBneDiff, Int.reduceToNat, decide_eq_true_eq, decide_eq_false_iff_not, beq_iff_eq, Int.toNat_natCast, loopK_normal, loopK_exit, loopK_ret, w2]
        rw [poAt_here hk hk2 h1]
        exact ⟨_, [], rfl, ⟨⟨⟨rfl, rfl, rfl⟩, trivial⟩, trivial, by simp [rn, hpAt]⟩⟩
      · have h1b : (l[k].n == x) = false := by simpa using h1
        have h1c : (l[k].n = x) = False := eq_false h1
        simp (maxSteps := 3000000) only [Try.f88, mRows_len, poRows_len, mRows_len, rowsOf_len, bytesOf_rows, msOf_rows, posOf_rows, hrow, hlt, h0, h1b, h1c, D.toI, D.toL, poRow, tYs, evL, implies_true, oMin, oCopy, oBin, oUn, oLoadKid, oStoreTree, oField, oExtract, oNil, oSliceQ, oLoadRow, takeCells, TS.atRow, TS.ex, treeMode, AV.isOwn, TK.isSl, nilTk, nilsB, oLenQ, oLen, nodupB, treeOf, kidAbs, kidRows, TK.isCell, D.toL, oLoad, oStore, oMake, oIndexAddr, ↓reduceIte, reduceCtorEq, Nat.reduceBEq, Nat.reduceAdd, Nat.reduceMul, Nat.reduceLT, Nat.reduceSub, Nat.reduceLeDiff, Nat.reduceEqDiff, Nat.reduceBneDiff, Int.reduceToNat, decide_eq_true_eq, decide_eq_false_iff_not, beq_iff_eq, Int.toNat_natCast, loopK_normal, loopK_exit, loopK_ret, w2]
        exact ⟨k + 1, [], ⟨by omega, fun j hj => by
          by_cases e : j = k
          · rw [e, po_get hk]; exact h1
          · exact hk2 j (by omega)⟩, by omega, ⟨⟨⟨rfl, rfl, rfl⟩, ⟨rfl, rfl, rfl⟩, trivial, trivial, trivial, ⟨rfl, rfl, rfl⟩, fitT_rep _ _ rfl⟩, trivial, by simp [rn, hpAt]⟩, by simp [keepIds]⟩
    · have hlt : ((k : Int) < (l.length : Int)) = False := eq_false (by omega)
      simp (maxSteps := 3000000) only [Try.f88, mRows_len, poRows_len, mRows_len, rowsOf_len, bytesOf_rows, msOf_rows, posOf_rows, hlt, D.toI, D.toL, poRow, tYs, evL, implies_true, oMin, oCopy, oBin, oUn, oLoadKid, oStoreTree, oField, oExtract, oNil, oSliceQ, oLoadRow, takeCells, TS.atRow, TS.ex, treeMode, AV.isOwn, TK.isSl, nilTk, nilsB, oLenQ, oLen, nodupB, treeOf, kidAbs, kidRows, TK.isCell, D.toL, oLoad, oStore, oMake, oIndexAddr, ↓reduceIte, reduceCtorEq, Nat.reduceBEq, Nat.reduceAdd, Nat.reduceMul, Nat.reduceLT, Nat.reduceSub, Nat.reduceLeDiff, Nat.reduceEqDiff, Nat.reduceBneDiff, Int.reduceToNat, decide_eq_true_eq, decide_eq_false_iff_not, beq_iff_eq, Int.toNat_natCast, loopK_normal, loopK_exit, loopK_ret, w2]
      obtain rfl : k = l.length := by omega
      rw [poAt_no hk2]
      exact ⟨_, [], rfl, ⟨⟨⟨rfl, rfl, rfl⟩, trivial⟩, trivial, by simp [rn, hpAt]⟩⟩
  · cases hg
def scp : List (FuncId × Abs) := [(65, pureAbs g_l1In), (65, pureAbs g_l1In)]
theorem scp_ok : ∀ p ∈ scp, CallOk Try.prog p.1 p.2 := by
  intro p hp
  simp only [scp, List.mem_cons, List.not_mem_nil, or_false] at hp
  rcases hp with rfl | rfl
  · exact l1In_ok.call
  · exact l1In_ok.call
set_option maxHeartbeats 2000000 in
set_option maxRecDepth 100000 in
theorem l9Copy_ok : PureOk Try.prog 87 g_portsCopied := by
  refine PureOk.of_vc (G := scp) scp_ok mixed Try.func87 (by kernel_rfl) rfl ?_
  intro args cnd r bs hg hc
  unfold g_portsCopied at hg
  split at hg
  · rename_i sz rows
    cases hg
    obtain ⟨l, rfl, hn, hd⟩ := hc
    refine ⟨⟨rfl, by simp [flatB], by simp [AV.ids, AV.ids.idsL]⟩, [.l 2 (poRows l)], rfl, fun w vs h => CvL.ok (.cons (.l _ _ _ (poRows_w l)) .nil) h, ?_⟩
    simp (maxSteps := 3000000) only [Try.f87, scp, poRows_len, tYs, evL, implies_true, oMin, oCopy, oBin, oUn, oLoadKid, oStoreTree, oField, oExtract, oNil, oSliceQ, oLoadRow, takeCells, TS.atRow, TS.ex, treeMode, AV.isOwn, TK.isSl, nilTk, nilsB, oLenQ, oLen, nodupB, treeOf, kidAbs, kidRows, TK.isCell, D.toL, oLoad, oStore, oMake, oIndexAddr, ↓reduceIte, reduceCtorEq, Nat.reduceBEq, Nat.reduceAdd, Nat.reduceMul, Nat.reduceLT, Nat.reduceSub, Nat.reduceLeDiff, Nat.reduceEqDiff, Nat.reduceBneDiff, Int.reduceToNat, decide_eq_true_eq, decide_eq_false_iff_not, beq_iff_eq, Int.toNat_natCast]
    refine e_loop _ _ _ _ _ _ _ _ (fun k : Nat => [.l 2 (poRows l), .any, .any, .own 0, .v (.int .i64 (k : Int))] ++ List.replicate (Try.f87.ntmps - 5) .any) (fun k => [(0, .tr .whole 60 2 [.cell, .sl 53 4 [.cell, .cell, .cell, .sl 5 1 [.cell]]] (poRows (l.take k)))]) (fun k => k ≤ l.length) (fun k => l.length - k) 1 (fun k => by simp) ?_ fun k hk' => ?_
    · exact ⟨0, [(0, some _)], Nat.zero_le _, ⟨⟨⟨rfl, rfl, rfl⟩, trivial, trivial, ⟨rfl, rfl, rfl⟩, ⟨rfl, rfl, rfl⟩, fitT_rep _ _ rfl⟩, ⟨.inr (.inl ⟨rfl, rfl, rfl⟩), rfl, rfl, rfl, trivial⟩, by simp [rn, hpAt]⟩, by simp [keepIds]⟩
    have w2 : IntKind.i64.wrap ((k : Int) + 1) = ((k + 1 : Nat) : Int) := by rw [wrap_id] <;> omega
    by_cases hk : k < l.length
    · have hrow := poRows_get l k hk
      have hlt : ((k : Int) < (l.length : Int)) = True := eq_true (by omega)
      have h0 : (0 ≤ (k : Int)) = True := eq_true (by omega)
      have hx := hd l[k] (List.getElem_mem hk)
      have hx1 := hx.1
      simp (maxSteps := 3000000) only [Try.f87, scp, poRows_len, mRows_len, rowsOf_len, bytesOf_rows, hrow, hlt, h0, D.toI, D.toL, poRow, mlRow, ↓reduceIte, Bool.false_eq_true, tYs, evL, implies_true, oMin, oCopy, oBin, oUn, oLoadKid, oStoreTree, oField, oExtract, oNil, oSliceQ, oLoadRow, takeCells, TS.atRow, TS.ex, treeMode, AV.isOwn, TK.isSl, nilTk, nilsB, oLenQ, oLen, nodupB, treeOf, kidAbs, kidRows, TK.isCell, D.toL, oLoad, oStore, oMake, oIndexAddr, ↓reduceIte, reduceCtorEq, Nat.reduceBEq, Nat.reduceAdd, Nat.reduceMul, Nat.reduceLT, Nat.reduceSub, Nat.reduceLeDiff, Nat.reduceEqDiff, Nat.reduceBneDiff, Int.reduceToNat, decide_eq_true_eq, decide_eq_false_iff_not, beq_iff_eq, Int.toNat_natCast, loopK_normal, loopK_exit, loopK_ret]
      refine e_loop _ _ _ _ _ _ _ _ (fun j : Nat => [.l 2 (poRows l), .any, .any, .own 0, .v (.int .i64 (k : Int)), .ptr 1 0, .v (.int .i64 (j : Int))] ++ List.replicate (Try.f87.ntmps - 7) .any) (fun j => [(0, .tr .whole 60 2 [.cell, .sl 53 4 [.cell, .cell, .cell, .sl 5 1 [.cell]]] (poRows (l.take k))), (1, .var 60 [.v (.int .i64 l[k].n), .own 2]), (2, .tr .whole 53 4 [.cell, .cell, .cell, .sl 5 1 [.cell]] (mRows (l[k].row.take j)))]) (fun j => j ≤ l[k].row.length) (fun j => l[k].row.length - j) 3 (fun j => by simp) ?_ fun j hj' => ?_
      · exact ⟨0, [(0, some 0), (1, some _), (2, none)], Nat.zero_le _, ⟨⟨⟨rfl, rfl, rfl⟩, trivial, trivial, ⟨rfl, rfl, rfl⟩, ⟨rfl, rfl, rfl⟩, ⟨rfl, rfl, rfl⟩, ⟨rfl, rfl, rfl⟩, fitT_rep _ _ rfl⟩, ⟨.inl rfl, rfl, rfl, rfl, .inl rfl, rfl, rfl, rfl, ⟨by omega, rfl, rfl⟩, rfl, rfl, rfl, trivial⟩, by simp [rn, hpAt]⟩, by simp [keepIds]⟩
      have wj : IntKind.i64.wrap ((j : Int) + 1) = ((j + 1 : Nat) : Int) := by rw [wrap_id] <;> omega
      by_cases hj : j < l[k].row.length
      · have hrm := mRows_get l[k].row j hj
        have hjl : ((j : Int) < (l[k].row.length : Int)) = True := eq_true (by omega)
        have hj0 : (0 ≤ (j : Int)) = True := eq_true (by omega)
        have hxd := hx.2 l[k].row[j] (List.getElem_mem hj)
        have e1 : mRows (l[k].row.take j) ++ [mlRow l[k].row[j]] = mRows (l[k].row.take (j + 1)) := by
          rw [take_one hj, ← mRows_app]; rfl
        have hpl : (mRows (l[k].row.take j)).length = j := by rw [mRows_len, List.length_take]; omega
        rw [mlRow] at e1
        simp (maxSteps := 3000000) only [Try.f87, scp, poRows_len, mRows_len, rowsOf_len, bytesOf_rows, hrow, hlt, h0, hrm, hjl, hj0, e1, hpl, wj, D.toI, D.toL, poRow, mlRow, ↓reduceIte, Bool.false_eq_true, tYs, evL, implies_true, oMin, oCopy, oBin, oUn, oLoadKid, oStoreTree, oField, oExtract, oNil, oSliceQ, oLoadRow, takeCells, TS.atRow, TS.ex, treeMode, AV.isOwn, TK.isSl, nilTk, nilsB, oLenQ, oLen, nodupB, treeOf, kidAbs, kidRows, TK.isCell, D.toL, oLoad, oStore, oMake, oIndexAddr, ↓reduceIte, reduceCtorEq, Nat.reduceBEq, Nat.reduceAdd, Nat.reduceMul, Nat.reduceLT, Nat.reduceSub, Nat.reduceLeDiff, Nat.reduceEqDiff, Nat.reduceBneDiff, Int.reduceToNat, decide_eq_true_eq, decide_eq_false_iff_not, beq_iff_eq, Int.toNat_natCast, loopK_normal, loopK_exit, loopK_ret]
        exact ⟨⟨by omega, by omega, rowsOf_w _⟩, rowsOf_flat _, ⟨by omega, by omega⟩, j + 1, [(0, some 0), (1, some _), (2, some _)], by omega, by omega, ⟨⟨⟨rfl, rfl, rfl⟩, trivial, trivial, ⟨rfl, rfl, rfl⟩, ⟨rfl, rfl, rfl⟩, ⟨rfl, rfl, rfl⟩, ⟨rfl, rfl, rfl⟩, fitT_rep _ _ rfl⟩, ⟨.inl rfl, rfl, rfl, rfl, .inl rfl, rfl, rfl, rfl, .inl rfl, rfl, rfl, rfl, trivial⟩, by simp [rn, hpAt]⟩, by simp [keepIds]⟩
      · have hjl : ((j : Int) < (l[k].row.length : Int)) = False := eq_false (by omega)
        obtain rfl : j = l[k].row.length := by omega
        have e1 : poRows (l.take k) ++ [poRow l[k]] = poRows (l.take (k + 1)) := by
          rw [take_one hk, ← poRows_app]; rfl
        have hpl : (poRows (l.take k)).length = k := by rw [poRows_len, List.length_take]; omega
        rw [poRow] at e1
        simp (maxSteps := 3000000) only [Try.f87, scp, poRows_len, mRows_len, rowsOf_len, bytesOf_rows, hrow, hlt, h0, hjl, List.take_length, e1, hpl, w2, D.toI, D.toL, poRow, mlRow, ↓reduceIte, Bool.false_eq_true, tYs, evL, implies_true, oMin, oCopy, oBin, oUn, oLoadKid, oStoreTree, oField, oExtract, oNil, oSliceQ, oLoadRow, takeCells, TS.atRow, TS.ex, treeMode, AV.isOwn, TK.isSl, nilTk, nilsB, oLenQ, oLen, nodupB, treeOf, kidAbs, kidRows, TK.isCell, D.toL, oLoad, oStore, oMake, oIndexAddr, ↓reduceIte, reduceCtorEq, Nat.reduceBEq, Nat.reduceAdd, Nat.reduceMul, Nat.reduceLT, Nat.reduceSub, Nat.reduceLeDiff, Nat.reduceEqDiff, Nat.reduceBneDiff, Int.reduceToNat, decide_eq_true_eq, decide_eq_false_iff_not, beq_iff_eq, Int.toNat_natCast, loopK_normal, loopK_exit, loopK_ret]
        exact ⟨⟨by omega, by omega⟩, k + 1, [(0, some _)], by omega, by omega, ⟨⟨⟨rfl, rfl, rfl⟩, trivial, trivial, ⟨rfl, rfl, rfl⟩, ⟨rfl, rfl, rfl⟩, fitT_rep _ _ rfl⟩, ⟨.inl rfl, rfl, rfl, rfl, trivial⟩, by simp [rn, hpAt]⟩, by simp [keepIds]⟩
    · have hlt : ((k : Int) < (l.length : Int)) = False := eq_false (by omega)
      simp (maxSteps := 3000000) only [Try.f87, scp, poRows_len, mRows_len, rowsOf_len, bytesOf_rows, hlt, D.toI, D.toL, poRow, mlRow, ↓reduceIte, Bool.false_eq_true, tYs, evL, implies_true, oMin, oCopy, oBin, oUn, oLoadKid, oStoreTree, oField, oExtract, oNil, oSliceQ, oLoadRow, takeCells, TS.atRow, TS.ex, treeMode, AV.isOwn, TK.isSl, nilTk, nilsB, oLenQ, oLen, nodupB, treeOf, kidAbs, kidRows, TK.isCell, D.toL, oLoad, oStore, oMake, oIndexAddr, ↓reduceIte, reduceCtorEq, Nat.reduceBEq, Nat.reduceAdd, Nat.reduceMul, Nat.reduceLT, Nat.reduceSub, Nat.reduceLeDiff, Nat.reduceEqDiff, Nat.reduceBneDiff, Int.reduceToNat, decide_eq_true_eq, decide_eq_false_iff_not, beq_iff_eq, Int.toNat_natCast, loopK_normal, loopK_exit, loopK_ret]
      obtain rfl : k = l.length := by omega
      rw [List.take_length]
      exact ⟨_, [(0, some _)], rfl, ⟨⟨⟨rfl, rfl, rfl⟩, trivial⟩, ⟨.inl rfl, rfl, rfl, rfl, trivial⟩, by simp [rn, hpAt]⟩⟩
  · cases hg
def dP (l : List Po) (x : Int) : Bool := l.any fun p => decide (x < p.n)
def oP (l : List Po) (x : Int) : List Po := if dP l x = true then insP l x else l
theorem insP_app : ∀ {a : List Po} {x : Int} (b : List Po), dP a x = true → insP (a ++ b) x = insP a x ++ b
  | [], x, b, h => by cases h
  | p :: t, x, b, h => by
    by_cases hp : x < p.n
    · rw [List.cons_append, insP, insP, if_pos hp, if_pos hp]; rfl
    · have ht : dP t x = true := by
        rw [dP, List.any_cons, decide_eq_false hp, Bool.false_or] at h
        exact h
      rw [List.cons_append, insP, insP, if_neg hp, if_neg hp, insP_app b ht]; rfl
theorem insP_end : ∀ {a : List Po} {x : Int} {p : Po}, dP a x = false → x < p.n → insP (a ++ [p]) x = a ++ [⟨x, []⟩] ++ [p]
  | [], x, p, _, hp => by rw [List.nil_append, insP, if_pos hp]; rfl
  | q :: t, x, p, h, hp => by
    rw [dP, List.any_cons, Bool.or_eq_false_iff] at h
    rw [List.cons_append, insP, if_neg (of_decide_eq_false h.1), insP_end h.2 hp]; rfl
theorem insP_last : ∀ {a : List Po} {x : Int}, dP a x = false → insP a x = a ++ [⟨x, []⟩]
  | [], x, _ => rfl
  | q :: t, x, h => by
    rw [dP, List.any_cons, Bool.or_eq_false_iff] at h
    rw [insP, if_neg (of_decide_eq_false h.1), insP_last h.2]; rfl
theorem dP_take {l : List Po} {x : Int} {k : Nat} (hk : k < l.length) : dP (l.take (k + 1)) x = (dP (l.take k) x || decide (x < l[k].n)) := by
  rw [take_one hk, dP, List.any_append]; simp [dP]
def spl : List (FuncId × Abs) := [(86, pureAbs g_portsOk), (65, pureAbs g_l1In), (88, pureAbs g_portAt), (87, pureAbs g_portsCopied)]
theorem spl_ok : ∀ p ∈ spl, CallOk Try.prog p.1 p.2 := by
  intro p hp
  simp only [spl, List.mem_cons, List.not_mem_nil, or_false] at hp
  rcases hp with rfl | rfl | rfl | rfl
  · exact specPortsOk_ok.call
  · exact l1In_ok.call
  · exact l9At_ok.call
  · exact l9Copy_ok.call
theorem upto_cases (k : Nat) : TS.upto k = .whole ∨ ∃ m, TS.upto k = .gone m := by
  cases k with
  | zero => exact .inl rfl
  | succ k => exact .inr ⟨k + 1, rfl⟩
set_option maxHeartbeats 8000000 in
set_option maxRecDepth 100000 in
theorem specPortListen_ok : PureOk Try.prog 134 g_portListen := by
  refine PureOk.of_vc (G := spl) spl_ok mixed Try.func134 (by kernel_rfl) rfl ?_
  intro args cnd r bs hg hc
  unfold g_portListen at hg
  split at hg
  · rename_i sz rows x
    cases hg
    obtain ⟨l, rfl, hm⟩ := hc
    rw [posOf_rows]
    have hn := hm.1
    refine ⟨⟨rfl, by simp [flatB], by simp [AV.ids, AV.ids.idsL]⟩, [.l 2 (poRows l), .v (.int .i64 x)], rfl, fun w vs h => CvL.ok (.cons (.l _ _ _ (poRows_w l)) (.cons (.refl _) .nil)) h, ?_⟩
    rcases hb : posB l with _ | _
    · have e1 : plB l x = false := by rw [plB, hb]; rfl
      have e2 : plV l x = [] := by rw [plV, if_neg (by rw [hb]; simp)]
      rw [e1, e2]
      simp (maxSteps := 3000000) only [Try.f134, spl, g_portsOk, g_l1In, g_portAt, g_portsCopied, poRows_len, posOf_rows, Bool.not_true, Bool.not_false, hb, ↓reduceIte, Bool.false_eq_true, tYs, evL, implies_true, oMin, oCopy, oBin, oUn, oLoadKid, oStoreTree, oField, oExtract, oNil, oSliceQ, oLoadRow, takeCells, TS.atRow, TS.ex, treeMode, AV.isOwn, TK.isSl, nilTk, nilsB, oLenQ, oLen, nodupB, treeOf, kidAbs, kidRows, TK.isCell, D.toL, oLoad, oStore, oMake, oIndexAddr, ↓reduceIte, reduceCtorEq, Nat.reduceBEq, Nat.reduceAdd, Nat.reduceMul, Nat.reduceLT, Nat.reduceSub, Nat.reduceLeDiff, Nat.reduceEqDiff, Nat.reduceBneDiff, Int.reduceToNat, decide_eq_true_eq, decide_eq_false_iff_not, beq_iff_eq, Int.toNat_natCast]
      exact ⟨⟨_, rfl, hm⟩, _, [(0, some _)], rfl, ⟨⟨⟨rfl, rfl, rfl⟩, trivial⟩, ⟨.inr (.inl ⟨rfl, rfl, rfl⟩), rfl, rfl, rfl, trivial⟩, by simp [rn, hpAt]⟩⟩
    rcases hx : inZ x 1 255 with _ | _
    · have e1 : plB l x = false := by rw [plB, hx]; simp
      have e2 : plV l x = [] := by rw [plV, if_neg (by rw [hx]; simp)]
      rw [e1, e2]
      simp (maxSteps := 3000000) only [Try.f134, spl, g_portsOk, g_l1In, g_portAt, g_portsCopied, poRows_len, posOf_rows, Bool.not_true, Bool.not_false, hb, hx, ↓reduceIte, Bool.false_eq_true, tYs, evL, implies_true, oMin, oCopy, oBin, oUn, oLoadKid, oStoreTree, oField, oExtract, oNil, oSliceQ, oLoadRow, takeCells, TS.atRow, TS.ex, treeMode, AV.isOwn, TK.isSl, nilTk, nilsB, oLenQ, oLen, nodupB, treeOf, kidAbs, kidRows, TK.isCell, D.toL, oLoad, oStore, oMake, oIndexAddr, ↓reduceIte, reduceCtorEq, Nat.reduceBEq, Nat.reduceAdd, Nat.reduceMul, Nat.reduceLT, Nat.reduceSub, Nat.reduceLeDiff, Nat.reduceEqDiff, Nat.reduceBneDiff, Int.reduceToNat, decide_eq_true_eq, decide_eq_false_iff_not, beq_iff_eq, Int.toNat_natCast]
      exact ⟨⟨_, rfl, hm⟩, _, [(0, some _)], rfl, ⟨⟨⟨rfl, rfl, rfl⟩, trivial⟩, ⟨.inr (.inl ⟨rfl, rfl, rfl⟩), rfl, rfl, rfl, trivial⟩, by simp [rn, hpAt]⟩⟩
    have same : plB l x = false → plV l x = l := fun h => by rw [plV, if_pos (by rw [hb, hx]; rfl), if_neg (by rw [h]; decide)]
    cases ha : poAt l x with
    | some n =>
      have e1 : plB l x = false := by rw [plB, ha]; simp
      have hge : ((n : Int) ≥ 0) = True := eq_true (by omega)
      rw [e1, same e1]
      simp (maxSteps := 3000000) only [Try.f134, spl, g_portsOk, g_l1In, g_portAt, g_portsCopied, poRows_len, posOf_rows, Bool.not_true, Bool.not_false, hb, hx, poI_some ha, hge, ↓reduceIte, Bool.false_eq_true, tYs, evL, implies_true, oMin, oCopy, oBin, oUn, oLoadKid, oStoreTree, oField, oExtract, oNil, oSliceQ, oLoadRow, takeCells, TS.atRow, TS.ex, treeMode, AV.isOwn, TK.isSl, nilTk, nilsB, oLenQ, oLen, nodupB, treeOf, kidAbs, kidRows, TK.isCell, D.toL, oLoad, oStore, oMake, oIndexAddr, ↓reduceIte, reduceCtorEq, Nat.reduceBEq, Nat.reduceAdd, Nat.reduceMul, Nat.reduceLT, Nat.reduceSub, Nat.reduceLeDiff, Nat.reduceEqDiff, Nat.reduceBneDiff, Int.reduceToNat, decide_eq_true_eq, decide_eq_false_iff_not, beq_iff_eq, Int.toNat_natCast]
      exact ⟨⟨_, rfl, hm⟩, ⟨_, rfl, hn⟩, ⟨_, rfl, hm⟩, _, [(0, some _)], rfl, ⟨⟨⟨rfl, rfl, rfl⟩, trivial⟩, ⟨.inl rfl, rfl, rfl, rfl, trivial⟩, by simp [rn, hpAt]⟩⟩
    | none =>
      have hge : (((-1 : Int)) ≥ 0) = False := eq_false (by omega)
      by_cases h4 : l.length = 4
      · have e1 : plB l x = false := by rw [plB, h4]; simp
        have h4b : ((l.length : Int) == 4) = true := beq_iff_eq.2 (by omega)
        have h4c : ((l.length : Int) = 4) = True := eq_true (by omega)
        rw [e1, same e1]
        simp (maxSteps := 3000000) only [Try.f134, spl, g_portsOk, g_l1In, g_portAt, g_portsCopied, poRows_len, posOf_rows, Bool.not_true, Bool.not_false, hb, hx, poI_none ha, hge, h4b, h4c, ↓reduceIte, Bool.false_eq_true, tYs, evL, implies_true, oMin, oCopy, oBin, oUn, oLoadKid, oStoreTree, oField, oExtract, oNil, oSliceQ, oLoadRow, takeCells, TS.atRow, TS.ex, treeMode, AV.isOwn, TK.isSl, nilTk, nilsB, oLenQ, oLen, nodupB, treeOf, kidAbs, kidRows, TK.isCell, D.toL, oLoad, oStore, oMake, oIndexAddr, ↓reduceIte, reduceCtorEq, Nat.reduceBEq, Nat.reduceAdd, Nat.reduceMul, Nat.reduceLT, Nat.reduceSub, Nat.reduceLeDiff, Nat.reduceEqDiff, Nat.reduceBneDiff, Int.reduceToNat, decide_eq_true_eq, decide_eq_false_iff_not, beq_iff_eq, Int.toNat_natCast]
        exact ⟨⟨_, rfl, hm⟩, ⟨_, rfl, hn⟩, ⟨_, rfl, hm⟩, _, [(0, some _)], rfl, ⟨⟨⟨rfl, rfl, rfl⟩, trivial⟩, ⟨.inl rfl, rfl, rfl, rfl, trivial⟩, by simp [rn, hpAt]⟩⟩
      · have hl4 := (posB_iff.1 hb).1
        have e1 : plB l x = true := by rw [plB, hb, hx, ha, decide_eq_true (show l.length < 4 by omega)]; rfl
        have e2 : plV l x = insP l x := by rw [plV, if_pos (by rw [hb, hx]; rfl), if_pos e1]
        have h4b : ((l.length : Int) == 4) = false := by rw [beq_eq_false_iff_ne]; omega
        have h4c : ((l.length : Int) = 4) = False := eq_false (by omega)
        rw [e1, e2]
        simp (maxSteps := 3000000) only [Try.f134, spl, g_portsOk, g_l1In, g_portAt, g_portsCopied, poRows_len, posOf_rows, Bool.not_true, Bool.not_false, hb, hx, poI_none ha, hge, h4b, h4c, ↓reduceIte, Bool.false_eq_true, tYs, evL, implies_true, oMin, oCopy, oBin, oUn, oLoadKid, oStoreTree, oField, oExtract, oNil, oSliceQ, oLoadRow, takeCells, TS.atRow, TS.ex, treeMode, AV.isOwn, TK.isSl, nilTk, nilsB, oLenQ, oLen, nodupB, treeOf, kidAbs, kidRows, TK.isCell, D.toL, oLoad, oStore, oMake, oIndexAddr, ↓reduceIte, reduceCtorEq, Nat.reduceBEq, Nat.reduceAdd, Nat.reduceMul, Nat.reduceLT, Nat.reduceSub, Nat.reduceLeDiff, Nat.reduceEqDiff, Nat.reduceBneDiff, Int.reduceToNat, decide_eq_true_eq, decide_eq_false_iff_not, beq_iff_eq, Int.toNat_natCast]
        refine ⟨⟨_, rfl, hm⟩, ⟨_, rfl, hn⟩, ⟨_, rfl, hm⟩, ?_⟩
        refine e_loop _ _ _ _ _ _ _ _ (fun k : Nat => [.any, .v (.int .i64 x), .any, .any, .any, .any, .own 0, .v (.bool (dP (l.take k) x)), .own 1, .v (.int .i64 (k : Int))] ++ List.replicate (Try.f134.ntmps - 10) .any) (fun k => [(0, .tr .whole 60 2 [.cell, .sl 53 4 [.cell, .cell, .cell, .sl 5 1 [.cell]]] (poRows (oP (l.take k) x))), (1, .tr (TS.upto k) 60 2 [.cell, .sl 53 4 [.cell, .cell, .cell, .sl 5 1 [.cell]]] (poRows l))]) (fun k => k ≤ l.length) (fun k => l.length - k) 2 (fun k => by simp) ?_ fun k hk' => ?_
        · exact ⟨0, [(0, some _), (1, some _)], Nat.zero_le _, ⟨⟨trivial, ⟨rfl, rfl, rfl⟩, trivial, trivial, trivial, trivial, ⟨rfl, rfl, rfl⟩, ⟨rfl, rfl, rfl⟩, ⟨rfl, rfl, rfl⟩, ⟨rfl, rfl, rfl⟩, fitT_rep _ _ rfl⟩, ⟨.inr (.inl ⟨rfl, rfl, rfl⟩), rfl, rfl, rfl, .inl rfl, rfl, rfl, rfl, trivial⟩, by simp [rn, hpAt]⟩, by simp [keepIds]⟩
        have w2 : IntKind.i64.wrap ((k : Int) + 1) = ((k + 1 : Nat) : Int) := by rw [wrap_id] <;> omega
        by_cases hk : k < l.length
        · have hrow := poRows_get l k hk
          have hlt : ((k : Int) < (l.length : Int)) = True := eq_true (by omega)
          have h0 : (0 ≤ (k : Int)) = True := eq_true (by omega)
          cases k with
          | zero =>
            rcases hd : dP (l.take 0) x with _ | _
            · have eo : oP (l.take 0) x = ([] : List Po) := by rw [oP, if_neg (by rw [hd]; decide)]; try rfl
              by_cases hlt2 : x < l[0].n
              · have c : (x < l[0].n) = True := eq_true hlt2
                have ed : dP (l.take (0 + 1)) x = true := by rw [dP_take hk, hd, decide_eq_true hlt2]; rfl
                have e1 : poRows ([] : List Po) ++ [[D.v (.int .i64 x), D.l 4 []]] = poRows ([⟨x, []⟩] : List Po) := by exact poRows_app ([] : List Po) [⟨x, []⟩]
                have e2 : poRows ([⟨x, []⟩] : List Po) ++ [[D.v (.int .i64 l[0].n), D.l 4 (mRows l[0].row)]] = poRows (oP (l.take (0 + 1)) x) := by
                  rw [oP, if_pos ed, take_one hk, insP_end hd hlt2]
                  exact poRows_app ([⟨x, []⟩] : List Po) [l[0]]
                have c1 : (poRows ([] : List Po)).length = 0 := by simp [poRows_len, List.length_take] <;> omega
                have c2 : (poRows ([⟨x, []⟩] : List Po)).length = 0 + 1 := by simp [poRows_len, List.length_append, List.length_take] <;> omega
                rw [eo]
                simp (maxSteps := 3000000) only [Try.f134, spl, poRows_len, mRows_len, hrow, hlt, h0, hd, e2, c1, w2, Nat.lt_irrefl, c, e1, c2, D.toI, D.toL, poRow, TS.upto, Bool.not_true, Bool.not_false, ↓reduceIte, Bool.false_eq_true, tYs, evL, implies_true, oMin, oCopy, oBin, oUn, oLoadKid, oStoreTree, oField, oExtract, oNil, oSliceQ, oLoadRow, takeCells, TS.atRow, TS.ex, treeMode, AV.isOwn, TK.isSl, nilTk, nilsB, oLenQ, oLen, nodupB, treeOf, kidAbs, kidRows, TK.isCell, D.toL, oLoad, oStore, oMake, oIndexAddr, ↓reduceIte, reduceCtorEq, Nat.reduceBEq, Nat.reduceAdd, Nat.reduceMul, Nat.reduceLT, Nat.reduceSub, Nat.reduceLeDiff, Nat.reduceEqDiff, Nat.reduceBneDiff, Int.reduceToNat, decide_eq_true_eq, decide_eq_false_iff_not, beq_iff_eq, Int.toNat_natCast, loopK_normal, loopK_exit, loopK_ret]
                repeat' first
                  | refine And.intro hk ?_
                  | refine And.intro ⟨by omega, by omega⟩ ?_
                  | refine And.intro (by kernel_rfl) ?_
                exact ⟨0 + 1, [(0, some _), (1, some _)], by omega, by omega, ⟨⟨trivial, ⟨rfl, rfl, rfl⟩, trivial, trivial, trivial, trivial, ⟨rfl, rfl, rfl⟩, ⟨congrArg (fun b => AV.v (Value.bool b)) ed.symm, rfl, rfl⟩, ⟨rfl, rfl, rfl⟩, ⟨rfl, rfl, rfl⟩, fitT_rep _ _ rfl⟩, ⟨.inl rfl, rfl, rfl, rfl, .inl rfl, rfl, rfl, rfl, trivial⟩, by simp [rn, hpAt]⟩, by simp [keepIds]⟩
              · have c : (x < l[0].n) = False := eq_false hlt2
                have ed : dP (l.take (0 + 1)) x = false := by rw [dP_take hk, hd, decide_eq_false hlt2]; rfl
                have e2 : poRows ([] : List Po) ++ [[D.v (.int .i64 l[0].n), D.l 4 (mRows l[0].row)]] = poRows (oP (l.take (0 + 1)) x) := by
                  rw [oP, if_neg (by rw [ed]; decide), take_one hk]
                  exact poRows_app ([] : List Po) [l[0]]
                have c1 : (poRows ([] : List Po)).length = 0 := by simp [poRows_len, List.length_take] <;> omega
                rw [eo]
                simp (maxSteps := 3000000) only [Try.f134, spl, poRows_len, mRows_len, hrow, hlt, h0, hd, e2, c1, w2, Nat.lt_irrefl, c, D.toI, D.toL, poRow, TS.upto, Bool.not_true, Bool.not_false, ↓reduceIte, Bool.false_eq_true, tYs, evL, implies_true, oMin, oCopy, oBin, oUn, oLoadKid, oStoreTree, oField, oExtract, oNil, oSliceQ, oLoadRow, takeCells, TS.atRow, TS.ex, treeMode, AV.isOwn, TK.isSl, nilTk, nilsB, oLenQ, oLen, nodupB, treeOf, kidAbs, kidRows, TK.isCell, D.toL, oLoad, oStore, oMake, oIndexAddr, ↓reduceIte, reduceCtorEq, Nat.reduceBEq, Nat.reduceAdd, Nat.reduceMul, Nat.reduceLT, Nat.reduceSub, Nat.reduceLeDiff, Nat.reduceEqDiff, Nat.reduceBneDiff, Int.reduceToNat, decide_eq_true_eq, decide_eq_false_iff_not, beq_iff_eq, Int.toNat_natCast, loopK_normal, loopK_exit, loopK_ret]
                repeat' first
                  | refine And.intro hk ?_
                  | refine And.intro ⟨by omega, by omega⟩ ?_
                  | refine And.intro (by kernel_rfl) ?_
                exact ⟨0 + 1, [(0, some _), (1, some _)], by omega, by omega, ⟨⟨trivial, ⟨rfl, rfl, rfl⟩, trivial, trivial, trivial, trivial, ⟨rfl, rfl, rfl⟩, ⟨congrArg (fun b => AV.v (Value.bool b)) ed.symm, rfl, rfl⟩, ⟨rfl, rfl, rfl⟩, ⟨rfl, rfl, rfl⟩, fitT_rep _ _ rfl⟩, ⟨.inl rfl, rfl, rfl, rfl, .inl rfl, rfl, rfl, rfl, trivial⟩, by simp [rn, hpAt]⟩, by simp [keepIds]⟩
            · simp [dP] at hd
          | succ q =>
            rcases hd : dP (l.take (q + 1)) x with _ | _
            · have eo : oP (l.take (q + 1)) x = (l.take (q + 1)) := by rw [oP, if_neg (by rw [hd]; decide)]; try rfl
              by_cases hlt2 : x < l[(q + 1)].n
              · have c : (x < l[(q + 1)].n) = True := eq_true hlt2
                have ed : dP (l.take ((q + 1) + 1)) x = true := by rw [dP_take hk, hd, decide_eq_true hlt2]; rfl
                have e1 : poRows (l.take (q + 1)) ++ [[D.v (.int .i64 x), D.l 4 []]] = poRows (l.take (q + 1) ++ [⟨x, []⟩]) := by exact poRows_app (l.take (q + 1)) [⟨x, []⟩]
                have e2 : poRows (l.take (q + 1) ++ [⟨x, []⟩]) ++ [[D.v (.int .i64 l[(q + 1)].n), D.l 4 (mRows l[(q + 1)].row)]] = poRows (oP (l.take ((q + 1) + 1)) x) := by
                  rw [oP, if_pos ed, take_one hk, insP_end hd hlt2]
                  exact poRows_app (l.take (q + 1) ++ [⟨x, []⟩]) [l[(q + 1)]]
                have c1 : (poRows (l.take (q + 1))).length = (q + 1) := by simp [poRows_len, List.length_take] <;> omega
                have c2 : (poRows (l.take (q + 1) ++ [⟨x, []⟩])).length = (q + 1) + 1 := by simp [poRows_len, List.length_append, List.length_take] <;> omega
                rw [eo]
                simp (maxSteps := 3000000) only [Try.f134, spl, poRows_len, mRows_len, hrow, hlt, h0, hd, e2, c1, w2, Nat.lt_irrefl, c, e1, c2, D.toI, D.toL, poRow, TS.upto, Bool.not_true, Bool.not_false, ↓reduceIte, Bool.false_eq_true, tYs, evL, implies_true, oMin, oCopy, oBin, oUn, oLoadKid, oStoreTree, oField, oExtract, oNil, oSliceQ, oLoadRow, takeCells, TS.atRow, TS.ex, treeMode, AV.isOwn, TK.isSl, nilTk, nilsB, oLenQ, oLen, nodupB, treeOf, kidAbs, kidRows, TK.isCell, D.toL, oLoad, oStore, oMake, oIndexAddr, ↓reduceIte, reduceCtorEq, Nat.reduceBEq, Nat.reduceAdd, Nat.reduceMul, Nat.reduceLT, Nat.reduceSub, Nat.reduceLeDiff, Nat.reduceEqDiff, Nat.reduceBneDiff, Int.reduceToNat, decide_eq_true_eq, decide_eq_false_iff_not, beq_iff_eq, Int.toNat_natCast, loopK_normal, loopK_exit, loopK_ret]
                repeat' first
                  | refine And.intro hk ?_
                  | refine And.intro ⟨by omega, by omega⟩ ?_
                  | refine And.intro (by kernel_rfl) ?_
                exact ⟨q + 1 + 1, [(0, some _), (1, some _)], by omega, by omega, ⟨⟨trivial, ⟨rfl, rfl, rfl⟩, trivial, trivial, trivial, trivial, ⟨rfl, rfl, rfl⟩, ⟨congrArg (fun b => AV.v (Value.bool b)) ed.symm, rfl, rfl⟩, ⟨rfl, rfl, rfl⟩, ⟨rfl, rfl, rfl⟩, fitT_rep _ _ rfl⟩, ⟨.inl rfl, rfl, rfl, rfl, .inl rfl, rfl, rfl, rfl, trivial⟩, by simp [rn, hpAt]⟩, by simp [keepIds]⟩
              · have c : (x < l[(q + 1)].n) = False := eq_false hlt2
                have ed : dP (l.take ((q + 1) + 1)) x = false := by rw [dP_take hk, hd, decide_eq_false hlt2]; rfl
                have e2 : poRows (l.take (q + 1)) ++ [[D.v (.int .i64 l[(q + 1)].n), D.l 4 (mRows l[(q + 1)].row)]] = poRows (oP (l.take ((q + 1) + 1)) x) := by
                  rw [oP, if_neg (by rw [ed]; decide), take_one hk]
                  exact poRows_app (l.take (q + 1)) [l[(q + 1)]]
                have c1 : (poRows (l.take (q + 1))).length = (q + 1) := by simp [poRows_len, List.length_take] <;> omega
                rw [eo]
                simp (maxSteps := 3000000) only [Try.f134, spl, poRows_len, mRows_len, hrow, hlt, h0, hd, e2, c1, w2, Nat.lt_irrefl, c, D.toI, D.toL, poRow, TS.upto, Bool.not_true, Bool.not_false, ↓reduceIte, Bool.false_eq_true, tYs, evL, implies_true, oMin, oCopy, oBin, oUn, oLoadKid, oStoreTree, oField, oExtract, oNil, oSliceQ, oLoadRow, takeCells, TS.atRow, TS.ex, treeMode, AV.isOwn, TK.isSl, nilTk, nilsB, oLenQ, oLen, nodupB, treeOf, kidAbs, kidRows, TK.isCell, D.toL, oLoad, oStore, oMake, oIndexAddr, ↓reduceIte, reduceCtorEq, Nat.reduceBEq, Nat.reduceAdd, Nat.reduceMul, Nat.reduceLT, Nat.reduceSub, Nat.reduceLeDiff, Nat.reduceEqDiff, Nat.reduceBneDiff, Int.reduceToNat, decide_eq_true_eq, decide_eq_false_iff_not, beq_iff_eq, Int.toNat_natCast, loopK_normal, loopK_exit, loopK_ret]
                repeat' first
                  | refine And.intro hk ?_
                  | refine And.intro ⟨by omega, by omega⟩ ?_
                  | refine And.intro (by kernel_rfl) ?_
                exact ⟨q + 1 + 1, [(0, some _), (1, some _)], by omega, by omega, ⟨⟨trivial, ⟨rfl, rfl, rfl⟩, trivial, trivial, trivial, trivial, ⟨rfl, rfl, rfl⟩, ⟨congrArg (fun b => AV.v (Value.bool b)) ed.symm, rfl, rfl⟩, ⟨rfl, rfl, rfl⟩, ⟨rfl, rfl, rfl⟩, fitT_rep _ _ rfl⟩, ⟨.inl rfl, rfl, rfl, rfl, .inl rfl, rfl, rfl, rfl, trivial⟩, by simp [rn, hpAt]⟩, by simp [keepIds]⟩
            · have eo : oP (l.take (q + 1)) x = insP (l.take (q + 1)) x := by rw [oP, if_pos hd]
              have ed : dP (l.take ((q + 1) + 1)) x = true := by rw [dP_take hk, hd]; rfl
              have e2 : poRows (insP (l.take (q + 1)) x) ++ [[D.v (.int .i64 l[(q + 1)].n), D.l 4 (mRows l[(q + 1)].row)]] = poRows (oP (l.take ((q + 1) + 1)) x) := by
                rw [oP, if_pos ed, take_one hk, insP_app _ hd]
                exact poRows_app _ [l[(q + 1)]]
              have c1 : (poRows (insP (l.take (q + 1)) x)).length = (q + 1) + 1 := by rw [poRows_len, insP_len, List.length_take]; omega
              rw [eo]
              simp (maxSteps := 3000000) only [Try.f134, spl, poRows_len, mRows_len, hrow, hlt, h0, hd, e2, c1, w2, Nat.lt_irrefl, D.toI, D.toL, poRow, TS.upto, Bool.not_true, Bool.not_false, ↓reduceIte, Bool.false_eq_true, tYs, evL, implies_true, oMin, oCopy, oBin, oUn, oLoadKid, oStoreTree, oField, oExtract, oNil, oSliceQ, oLoadRow, takeCells, TS.atRow, TS.ex, treeMode, AV.isOwn, TK.isSl, nilTk, nilsB, oLenQ, oLen, nodupB, treeOf, kidAbs, kidRows, TK.isCell, D.toL, oLoad, oStore, oMake, oIndexAddr, ↓reduceIte, reduceCtorEq, Nat.reduceBEq, Nat.reduceAdd, Nat.reduceMul, Nat.reduceLT, Nat.reduceSub, Nat.reduceLeDiff, Nat.reduceEqDiff, Nat.reduceBneDiff, Int.reduceToNat, decide_eq_true_eq, decide_eq_false_iff_not, beq_iff_eq, Int.toNat_natCast, loopK_normal, loopK_exit, loopK_ret]
              repeat' first
                | refine And.intro hk ?_
                | refine And.intro ⟨by omega, by omega⟩ ?_
                | refine And.intro (by kernel_rfl) ?_
              exact ⟨q + 1 + 1, [(0, some _), (1, some _)], by omega, by omega, ⟨⟨trivial, ⟨rfl, rfl, rfl⟩, trivial, trivial, trivial, trivial, ⟨rfl, rfl, rfl⟩, ⟨congrArg (fun b => AV.v (Value.bool b)) ed.symm, rfl, rfl⟩, ⟨rfl, rfl, rfl⟩, ⟨rfl, rfl, rfl⟩, fitT_rep _ _ rfl⟩, ⟨.inl rfl, rfl, rfl, rfl, .inl rfl, rfl, rfl, rfl, trivial⟩, by simp [rn, hpAt]⟩, by simp [keepIds]⟩
        · skip
          have hlt : ((k : Int) < (l.length : Int)) = False := eq_false (by omega)
          obtain rfl : k = l.length := by omega
          rcases hd : dP l x with _ | _
          · have eo : oP l x = l := by rw [oP, if_neg (by rw [hd]; decide)]
            have e1 : poRows l ++ [[D.v (.int .i64 x), D.l 4 []]] = poRows (insP l x) := by
              rw [insP_last hd]; exact poRows_app l [⟨x, []⟩]
            rcases upto_cases l.length with hu | ⟨q, hu⟩
            · rw [hu]
              simp (maxSteps := 3000000) only [Try.f134, spl, poRows_len, mRows_len, hlt, hd, eo, List.take_length, e1, D.toI, D.toL, poRow, Bool.not_true, Bool.not_false, ↓reduceIte, Bool.false_eq_true, tYs, evL, implies_true, oMin, oCopy, oBin, oUn, oLoadKid, oStoreTree, oField, oExtract, oNil, oSliceQ, oLoadRow, takeCells, TS.atRow, TS.ex, treeMode, AV.isOwn, TK.isSl, nilTk, nilsB, oLenQ, oLen, nodupB, treeOf, kidAbs, kidRows, TK.isCell, D.toL, oLoad, oStore, oMake, oIndexAddr, ↓reduceIte, reduceCtorEq, Nat.reduceBEq, Nat.reduceAdd, Nat.reduceMul, Nat.reduceLT, Nat.reduceSub, Nat.reduceLeDiff, Nat.reduceEqDiff, Nat.reduceBneDiff, Int.reduceToNat, decide_eq_true_eq, decide_eq_false_iff_not, beq_iff_eq, Int.toNat_natCast, loopK_normal, loopK_exit, loopK_ret]
              refine ⟨⟨by omega, by omega⟩, ?_⟩
              exact ⟨_, [(0, some _)], rfl, ⟨⟨⟨rfl, rfl, rfl⟩, trivial⟩, ⟨.inl rfl, rfl, rfl, rfl, trivial⟩, by simp [rn, hpAt]⟩⟩
            · rw [hu]
              simp (maxSteps := 3000000) only [Try.f134, spl, poRows_len, mRows_len, hlt, hd, eo, List.take_length, e1, D.toI, D.toL, poRow, Bool.not_true, Bool.not_false, ↓reduceIte, Bool.false_eq_true, tYs, evL, implies_true, oMin, oCopy, oBin, oUn, oLoadKid, oStoreTree, oField, oExtract, oNil, oSliceQ, oLoadRow, takeCells, TS.atRow, TS.ex, treeMode, AV.isOwn, TK.isSl, nilTk, nilsB, oLenQ, oLen, nodupB, treeOf, kidAbs, kidRows, TK.isCell, D.toL, oLoad, oStore, oMake, oIndexAddr, ↓reduceIte, reduceCtorEq, Nat.reduceBEq, Nat.reduceAdd, Nat.reduceMul, Nat.reduceLT, Nat.reduceSub, Nat.reduceLeDiff, Nat.reduceEqDiff, Nat.reduceBneDiff, Int.reduceToNat, decide_eq_true_eq, decide_eq_false_iff_not, beq_iff_eq, Int.toNat_natCast, loopK_normal, loopK_exit, loopK_ret]
              refine ⟨⟨by omega, by omega⟩, ?_⟩
              exact ⟨_, [(0, some _)], rfl, ⟨⟨⟨rfl, rfl, rfl⟩, trivial⟩, ⟨.inl rfl, rfl, rfl, rfl, trivial⟩, by simp [rn, hpAt]⟩⟩
          · have eo : oP l x = insP l x := by rw [oP, if_pos hd]
            rcases upto_cases l.length with hu | ⟨q, hu⟩
            · rw [hu]
              simp (maxSteps := 3000000) only [Try.f134, spl, poRows_len, mRows_len, hlt, hd, eo, List.take_length, Bool.not_true, D.toI, D.toL, poRow, Bool.not_true, Bool.not_false, ↓reduceIte, Bool.false_eq_true, tYs, evL, implies_true, oMin, oCopy, oBin, oUn, oLoadKid, oStoreTree, oField, oExtract, oNil, oSliceQ, oLoadRow, takeCells, TS.atRow, TS.ex, treeMode, AV.isOwn, TK.isSl, nilTk, nilsB, oLenQ, oLen, nodupB, treeOf, kidAbs, kidRows, TK.isCell, D.toL, oLoad, oStore, oMake, oIndexAddr, ↓reduceIte, reduceCtorEq, Nat.reduceBEq, Nat.reduceAdd, Nat.reduceMul, Nat.reduceLT, Nat.reduceSub, Nat.reduceLeDiff, Nat.reduceEqDiff, Nat.reduceBneDiff, Int.reduceToNat, decide_eq_true_eq, decide_eq_false_iff_not, beq_iff_eq, Int.toNat_natCast, loopK_normal, loopK_exit, loopK_ret]
              exact ⟨_, [(0, some _)], rfl, ⟨⟨⟨rfl, rfl, rfl⟩, trivial⟩, ⟨.inl rfl, rfl, rfl, rfl, trivial⟩, by simp [rn, hpAt]⟩⟩
            · rw [hu]
              simp (maxSteps := 3000000) only [Try.f134, spl, poRows_len, mRows_len, hlt, hd, eo, List.take_length, Bool.not_true, D.toI, D.toL, poRow, Bool.not_true, Bool.not_false, ↓reduceIte, Bool.false_eq_true, tYs, evL, implies_true, oMin, oCopy, oBin, oUn, oLoadKid, oStoreTree, oField, oExtract, oNil, oSliceQ, oLoadRow, takeCells, TS.atRow, TS.ex, treeMode, AV.isOwn, TK.isSl, nilTk, nilsB, oLenQ, oLen, nodupB, treeOf, kidAbs, kidRows, TK.isCell, D.toL, oLoad, oStore, oMake, oIndexAddr, ↓reduceIte, reduceCtorEq, Nat.reduceBEq, Nat.reduceAdd, Nat.reduceMul, Nat.reduceLT, Nat.reduceSub, Nat.reduceLeDiff, Nat.reduceEqDiff, Nat.reduceBneDiff, Int.reduceToNat, decide_eq_true_eq, decide_eq_false_iff_not, beq_iff_eq, Int.toNat_natCast, loopK_normal, loopK_exit, loopK_ret]
              exact ⟨_, [(0, some _)], rfl, ⟨⟨⟨rfl, rfl, rfl⟩, trivial⟩, ⟨.inl rfl, rfl, rfl, rfl, trivial⟩, by simp [rn, hpAt]⟩⟩
  · cases hg
def g_mailFromT : PC := fun args => match args with
  | [.v (.int .i64 a), .v (.int .i64 t), .l _ rows] => some (∃ xs, rows = rowsOfBytes xs ∧ xs.length ≤ 1048576, .tup [.agg [.v (.int .i64 (mfA a t (bytesOfRows rows))), .v (.int .i64 (mfF a t (bytesOfRows rows))), .v (.int .i64 (mfT a t (bytesOfRows rows))), .own 0], .v (.bool (mfOk a t (bytesOfRows rows)))], [.tr .whole 5 1 [.cell] (rowsOfBytes (mfD a t (bytesOfRows rows)))])
  | _ => none
theorem specMailFromT_ok : PureOk Try.prog 160 g_mailFromT := specMailFrom_ok.toTree fun args c r bs' h => by
  unfold g_mailFromT at h
  split at h
  · cases h; exact ⟨_, rfl, rfl⟩
  · cases h
def sph : List (FuncId × Abs) := [(86, pureAbs g_portsOk), (87, pureAbs g_portsCopied), (160, pureAbs g_mailFromT), (64, pureAbs g_packetOk), (88, pureAbs g_portAt)]
theorem sph_ok : ∀ p ∈ sph, CallOk Try.prog p.1 p.2 := by
  intro p hp
  simp only [sph, List.mem_cons, List.not_mem_nil, or_false] at hp
  rcases hp with rfl | rfl | rfl | rfl | rfl
  · exact specPortsOk_ok.call
  · exact l9Copy_ok.call
  · exact specMailFromT_ok.call
  · exact specPacketOk_ok.call
  · exact l9At_ok.call
set_option maxHeartbeats 8000000 in
set_option maxRecDepth 100000 in
theorem specPortHear_ok : PureOk Try.prog 136 g_portHear := by
  refine PureOk.of_vc (G := sph) sph_ok mixed Try.func136 (by kernel_rfl) rfl ?_
  intro args cnd r bs hg hc
  unfold g_portHear at hg
  split at hg
  · rename_i sz' rows' o f t p h i a m u sz rows
    cases hg
    obtain ⟨⟨l, rfl, hm⟩, xs, rfl, hl⟩ := hc
    rw [posOf_rows, bytesOf_rows]
    have hn := hm.1
    refine ⟨⟨rfl, by simp [flatB], by simp [AV.ids, AV.ids.idsL]⟩, [.l 2 (poRows l), .v (.int .i64 o), .agg [.v (.int .i64 f), .v (.int .i64 t), .v (.int .i64 p), .v (.int .i64 h), .v (.int .i64 i), .v (.int .i64 a), .v (.bool m), .v (.bool u), (.l 1 (rowsOfBytes xs))]], rfl, fun w vs h => CvL.ok (.cons (.l _ _ _ (poRows_w l)) (.cons (.refl _) (.cons (.cons (.refl _) (.cons (.refl _) (.cons (.refl _) (.cons (.refl _) (.cons (.refl _) (.cons (.refl _) (.cons (.refl _) (.cons (.refl _) (.cons (.l _ _ _ (rowsOf_w xs)) .nil))))))))) .nil))) h, ?_⟩
    rcases hb : posB l with _ | _
    · have e0 : phOkP l o ⟨f, t, p, h, i, a, m, u, xs⟩ = false := by rw [phOkP, hb]; rfl
      have e2 : pHearV l o ⟨f, t, p, h, i, a, m, u, xs⟩ = [] := by rw [pHearV, if_neg (by rw [hb]; simp)]
      rw [hearN_no e0, e2]
      simp (maxSteps := 3000000) only [Try.f136, sph, g_portsOk, g_portsCopied, g_mailFromT, g_packetOk, g_portAt, bytesOf_rows, rowsOf_len, poRows_len, mRows_len, posOf_rows, Bool.not_true, Bool.not_false, D.toI, D.toL, poRow, hb, ↓reduceIte, Bool.false_eq_true, tYs, evL, implies_true, oMin, oCopy, oBin, oUn, oLoadKid, oStoreTree, oField, oExtract, oNil, oSliceQ, oLoadRow, takeCells, TS.atRow, TS.ex, treeMode, AV.isOwn, TK.isSl, nilTk, nilsB, oLenQ, oLen, nodupB, treeOf, kidAbs, kidRows, TK.isCell, D.toL, oLoad, oStore, oMake, oIndexAddr, ↓reduceIte, reduceCtorEq, Nat.reduceBEq, Nat.reduceAdd, Nat.reduceMul, Nat.reduceLT, Nat.reduceSub, Nat.reduceLeDiff, Nat.reduceEqDiff, Nat.reduceBneDiff, Int.reduceToNat, decide_eq_true_eq, decide_eq_false_iff_not, beq_iff_eq, Int.toNat_natCast]
      exact ⟨⟨_, rfl, hm⟩, _, [(0, some _)], rfl, ⟨⟨⟨rfl, rfl, rfl⟩, trivial⟩, ⟨.inr (.inl ⟨rfl, rfl, rfl⟩), rfl, rfl, rfl, trivial⟩, by simp [rn, hpAt]⟩⟩
    have hph := ph_ok (f := f) (t := t) (p := p) (h := h) (i := i) (a := a) (o := o) (m := m) (u := u) (xs := xs) hb
    rcases b1 : pkB f t p h i a m u xs.length with _ | _
    · have hq : miOk f t p h i a m u xs o = false := by rw [miOk, prB, b1]; rfl
      rw [hq] at hph
      have e2 : pHearV l o ⟨f, t, p, h, i, a, m, u, xs⟩ = l := hear_else hb (by rw [hearN_no hph]; decide)
      rw [hearN_no hph, e2]
      simp (maxSteps := 3000000) only [Try.f136, sph, g_portsOk, g_portsCopied, g_mailFromT, g_packetOk, g_portAt, bytesOf_rows, rowsOf_len, poRows_len, mRows_len, posOf_rows, Bool.not_true, Bool.not_false, D.toI, D.toL, poRow, hb, b1, ↓reduceIte, Bool.false_eq_true, tYs, evL, implies_true, oMin, oCopy, oBin, oUn, oLoadKid, oStoreTree, oField, oExtract, oNil, oSliceQ, oLoadRow, takeCells, TS.atRow, TS.ex, treeMode, AV.isOwn, TK.isSl, nilTk, nilsB, oLenQ, oLen, nodupB, treeOf, kidAbs, kidRows, TK.isCell, D.toL, oLoad, oStore, oMake, oIndexAddr, ↓reduceIte, reduceCtorEq, Nat.reduceBEq, Nat.reduceAdd, Nat.reduceMul, Nat.reduceLT, Nat.reduceSub, Nat.reduceLeDiff, Nat.reduceEqDiff, Nat.reduceBneDiff, Int.reduceToNat, decide_eq_true_eq, decide_eq_false_iff_not, beq_iff_eq, Int.toNat_natCast]
      exact ⟨⟨_, rfl, hm⟩, ⟨_, rfl, hm⟩, ⟨_, rfl, hl⟩, _, [(0, some _)], rfl, ⟨⟨⟨rfl, rfl, rfl⟩, trivial⟩, ⟨.inl rfl, rfl, rfl, rfl, trivial⟩, by simp [rn, hpAt]⟩⟩
    have ha0 : 0 ≤ a := by
      have := b1
      simp only [pkB, pkR, Bool.and_eq_true, decide_eq_true_eq] at this
      omega
    by_cases b2 : p = 2
    rotate_left
    · have b2' : (p != 2) = true := by simp [b2]
      have hq : miOk f t p h i a m u xs o = false := by rw [miOk, decide_eq_false b2, Bool.and_false, Bool.false_and]
      rw [hq] at hph
      have e2 : pHearV l o ⟨f, t, p, h, i, a, m, u, xs⟩ = l := hear_else hb (by rw [hearN_no hph]; decide)
      rw [hearN_no hph, e2]
      simp (maxSteps := 3000000) only [Try.f136, sph, g_portsOk, g_portsCopied, g_mailFromT, g_packetOk, g_portAt, bytesOf_rows, rowsOf_len, poRows_len, mRows_len, posOf_rows, Bool.not_true, Bool.not_false, D.toI, D.toL, poRow, hb, b1, b2', ↓reduceIte, Bool.false_eq_true, tYs, evL, implies_true, oMin, oCopy, oBin, oUn, oLoadKid, oStoreTree, oField, oExtract, oNil, oSliceQ, oLoadRow, takeCells, TS.atRow, TS.ex, treeMode, AV.isOwn, TK.isSl, nilTk, nilsB, oLenQ, oLen, nodupB, treeOf, kidAbs, kidRows, TK.isCell, D.toL, oLoad, oStore, oMake, oIndexAddr, ↓reduceIte, reduceCtorEq, Nat.reduceBEq, Nat.reduceAdd, Nat.reduceMul, Nat.reduceLT, Nat.reduceSub, Nat.reduceLeDiff, Nat.reduceEqDiff, Nat.reduceBneDiff, Int.reduceToNat, decide_eq_true_eq, decide_eq_false_iff_not, beq_iff_eq, Int.toNat_natCast]
      exact ⟨⟨_, rfl, hm⟩, ⟨_, rfl, hm⟩, ⟨_, rfl, hl⟩, _, [(0, some _)], rfl, ⟨⟨⟨rfl, rfl, rfl⟩, trivial⟩, ⟨.inl rfl, rfl, rfl, rfl, trivial⟩, by simp [rn, hpAt]⟩⟩
    have b2' : (p != 2) = false := by simp [b2]
    by_cases b3 : t = o
    rotate_left
    · have b3' : (t != o) = true := by simp [b3]
      have hq : miOk f t p h i a m u xs o = false := by rw [miOk, prB, decide_eq_false b3, Bool.and_false, Bool.false_and, Bool.false_and, Bool.false_and, Bool.false_and]
      rw [hq] at hph
      have e2 : pHearV l o ⟨f, t, p, h, i, a, m, u, xs⟩ = l := hear_else hb (by rw [hearN_no hph]; decide)
      rw [hearN_no hph, e2]
      simp (maxSteps := 3000000) only [Try.f136, sph, g_portsOk, g_portsCopied, g_mailFromT, g_packetOk, g_portAt, bytesOf_rows, rowsOf_len, poRows_len, mRows_len, posOf_rows, Bool.not_true, Bool.not_false, D.toI, D.toL, poRow, hb, b1, b2', b3', ↓reduceIte, Bool.false_eq_true, tYs, evL, implies_true, oMin, oCopy, oBin, oUn, oLoadKid, oStoreTree, oField, oExtract, oNil, oSliceQ, oLoadRow, takeCells, TS.atRow, TS.ex, treeMode, AV.isOwn, TK.isSl, nilTk, nilsB, oLenQ, oLen, nodupB, treeOf, kidAbs, kidRows, TK.isCell, D.toL, oLoad, oStore, oMake, oIndexAddr, ↓reduceIte, reduceCtorEq, Nat.reduceBEq, Nat.reduceAdd, Nat.reduceMul, Nat.reduceLT, Nat.reduceSub, Nat.reduceLeDiff, Nat.reduceEqDiff, Nat.reduceBneDiff, Int.reduceToNat, decide_eq_true_eq, decide_eq_false_iff_not, beq_iff_eq, Int.toNat_natCast]
      exact ⟨⟨_, rfl, hm⟩, ⟨_, rfl, hm⟩, ⟨_, rfl, hl⟩, _, [(0, some _)], rfl, ⟨⟨⟨rfl, rfl, rfl⟩, trivial⟩, ⟨.inl rfl, rfl, rfl, rfl, trivial⟩, by simp [rn, hpAt]⟩⟩
    have b3' : (t != o) = false := by simp [b3]
    by_cases b4 : a = 0
    rotate_left
    · have b4' : (a > 0) = True := eq_true (by omega)
      have hq : miOk f t p h i a m u xs o = false := by rw [miOk, prB, decide_eq_false b4, Bool.and_false, Bool.false_and, Bool.false_and, Bool.false_and]
      rw [hq] at hph
      have e2 : pHearV l o ⟨f, t, p, h, i, a, m, u, xs⟩ = l := hear_else hb (by rw [hearN_no hph]; decide)
      rw [hearN_no hph, e2]
      simp (maxSteps := 3000000) only [Try.f136, sph, g_portsOk, g_portsCopied, g_mailFromT, g_packetOk, g_portAt, bytesOf_rows, rowsOf_len, poRows_len, mRows_len, posOf_rows, Bool.not_true, Bool.not_false, D.toI, D.toL, poRow, hb, b1, b2', b3', b4', ↓reduceIte, Bool.false_eq_true, tYs, evL, implies_true, oMin, oCopy, oBin, oUn, oLoadKid, oStoreTree, oField, oExtract, oNil, oSliceQ, oLoadRow, takeCells, TS.atRow, TS.ex, treeMode, AV.isOwn, TK.isSl, nilTk, nilsB, oLenQ, oLen, nodupB, treeOf, kidAbs, kidRows, TK.isCell, D.toL, oLoad, oStore, oMake, oIndexAddr, ↓reduceIte, reduceCtorEq, Nat.reduceBEq, Nat.reduceAdd, Nat.reduceMul, Nat.reduceLT, Nat.reduceSub, Nat.reduceLeDiff, Nat.reduceEqDiff, Nat.reduceBneDiff, Int.reduceToNat, decide_eq_true_eq, decide_eq_false_iff_not, beq_iff_eq, Int.toNat_natCast]
      exact ⟨⟨_, rfl, hm⟩, ⟨_, rfl, hm⟩, ⟨_, rfl, hl⟩, _, [(0, some _)], rfl, ⟨⟨⟨rfl, rfl, rfl⟩, trivial⟩, ⟨.inl rfl, rfl, rfl, rfl, trivial⟩, by simp [rn, hpAt]⟩⟩
    have b4' : (a > 0) = False := eq_false (by omega)
    cases m with
    | true =>
      have hq : miOk f t p h i a true u xs o = false := by rw [miOk, prB, Bool.not_true, Bool.and_false, Bool.false_and, Bool.false_and]
      rw [hq] at hph
      have e2 : pHearV l o ⟨f, t, p, h, i, a, true, u, xs⟩ = l := hear_else hb (by rw [hearN_no hph]; decide)
      rw [hearN_no hph, e2]
      simp (maxSteps := 3000000) only [Try.f136, sph, g_portsOk, g_portsCopied, g_mailFromT, g_packetOk, g_portAt, bytesOf_rows, rowsOf_len, poRows_len, mRows_len, posOf_rows, Bool.not_true, Bool.not_false, D.toI, D.toL, poRow, hb, b1, b2', b3', b4', ↓reduceIte, Bool.false_eq_true, tYs, evL, implies_true, oMin, oCopy, oBin, oUn, oLoadKid, oStoreTree, oField, oExtract, oNil, oSliceQ, oLoadRow, takeCells, TS.atRow, TS.ex, treeMode, AV.isOwn, TK.isSl, nilTk, nilsB, oLenQ, oLen, nodupB, treeOf, kidAbs, kidRows, TK.isCell, D.toL, oLoad, oStore, oMake, oIndexAddr, ↓reduceIte, reduceCtorEq, Nat.reduceBEq, Nat.reduceAdd, Nat.reduceMul, Nat.reduceLT, Nat.reduceSub, Nat.reduceLeDiff, Nat.reduceEqDiff, Nat.reduceBneDiff, Int.reduceToNat, decide_eq_true_eq, decide_eq_false_iff_not, beq_iff_eq, Int.toNat_natCast]
      exact ⟨⟨_, rfl, hm⟩, ⟨_, rfl, hm⟩, ⟨_, rfl, hl⟩, _, [(0, some _)], rfl, ⟨⟨⟨rfl, rfl, rfl⟩, trivial⟩, ⟨.inl rfl, rfl, rfl, rfl, trivial⟩, by simp [rn, hpAt]⟩⟩
    | false =>
      rcases b5 : mfOk f t xs with _ | _
      · have hq : miOk f t p h i a false u xs o = false := by rw [miOk, ← b3, b5, Bool.and_false]
        rw [hq] at hph
        have e2 : pHearV l o ⟨f, t, p, h, i, a, false, u, xs⟩ = l := hear_else hb (by rw [hearN_no hph]; decide)
        rw [hearN_no hph, e2]
        simp (maxSteps := 3000000) only [Try.f136, sph, g_portsOk, g_portsCopied, g_mailFromT, g_packetOk, g_portAt, bytesOf_rows, rowsOf_len, poRows_len, mRows_len, posOf_rows, Bool.not_true, Bool.not_false, D.toI, D.toL, poRow, hb, b1, b2', b3', b4', b5, ↓reduceIte, Bool.false_eq_true, tYs, evL, implies_true, oMin, oCopy, oBin, oUn, oLoadKid, oStoreTree, oField, oExtract, oNil, oSliceQ, oLoadRow, takeCells, TS.atRow, TS.ex, treeMode, AV.isOwn, TK.isSl, nilTk, nilsB, oLenQ, oLen, nodupB, treeOf, kidAbs, kidRows, TK.isCell, D.toL, oLoad, oStore, oMake, oIndexAddr, ↓reduceIte, reduceCtorEq, Nat.reduceBEq, Nat.reduceAdd, Nat.reduceMul, Nat.reduceLT, Nat.reduceSub, Nat.reduceLeDiff, Nat.reduceEqDiff, Nat.reduceBneDiff, Int.reduceToNat, decide_eq_true_eq, decide_eq_false_iff_not, beq_iff_eq, Int.toNat_natCast]
        exact ⟨⟨_, rfl, hm⟩, ⟨_, rfl, hm⟩, ⟨_, rfl, hl⟩, _, [(0, some _)], rfl, ⟨⟨⟨rfl, rfl, rfl⟩, trivial⟩, ⟨.inl rfl, rfl, rfl, rfl, trivial⟩, by simp [rn, hpAt]⟩⟩
      have hq : miOk f t p h i a false u xs o = true := by rw [miOk, prB, b1, decide_eq_true b2, decide_eq_true b3, decide_eq_true b4, ← b3, b5]; rfl
      rw [hq] at hph
      obtain ⟨n1, n2, n3, n4⟩ := mf_pos b5
      have hN := hearN_of hph
      have hM : (mfM f xs).t = ((xs.getD 1 0).toNat : Int) := rfl
      dsimp only at hN
      rw [hM] at hN
      cases ha : poAt l ((xs.getD 1 0).toNat : Int) with
      | none =>
        rw [ha] at hN
        dsimp only at hN
        have e2 : pHearV l o ⟨f, t, p, h, i, a, false, u, xs⟩ = l := hear_else hb (by rw [hN]; decide)
        have hlt : ((-1 : Int) < 0) = True := eq_true (by omega)
        rw [hN, e2]
        simp (maxSteps := 3000000) only [Try.f136, sph, g_portsOk, g_portsCopied, g_mailFromT, g_packetOk, g_portAt, bytesOf_rows, rowsOf_len, poRows_len, mRows_len, posOf_rows, Bool.not_true, Bool.not_false, D.toI, D.toL, poRow, hb, b1, b2', b3', b4', b5, n1, n2, n3, n4, poI_none ha, hlt, ↓reduceIte, Bool.false_eq_true, tYs, evL, implies_true, oMin, oCopy, oBin, oUn, oLoadKid, oStoreTree, oField, oExtract, oNil, oSliceQ, oLoadRow, takeCells, TS.atRow, TS.ex, treeMode, AV.isOwn, TK.isSl, nilTk, nilsB, oLenQ, oLen, nodupB, treeOf, kidAbs, kidRows, TK.isCell, D.toL, oLoad, oStore, oMake, oIndexAddr, ↓reduceIte, reduceCtorEq, Nat.reduceBEq, Nat.reduceAdd, Nat.reduceMul, Nat.reduceLT, Nat.reduceSub, Nat.reduceLeDiff, Nat.reduceEqDiff, Nat.reduceBneDiff, Int.reduceToNat, decide_eq_true_eq, decide_eq_false_iff_not, beq_iff_eq, Int.toNat_natCast]
        exact ⟨⟨_, rfl, hm⟩, ⟨_, rfl, hm⟩, ⟨_, rfl, hl⟩, ⟨_, rfl, hn⟩, _, [(0, some _)], rfl, ⟨⟨⟨rfl, rfl, rfl⟩, trivial⟩, ⟨.inl rfl, rfl, rfl, rfl, trivial⟩, by simp [rn, hpAt]⟩⟩
      | some n =>
        rw [ha] at hN
        dsimp only at hN
        obtain ⟨hnl, hnx⟩ := poAt_some ha
        have hx := hm.2 l[n] (List.getElem_mem hnl)
        have hx1 := hx.1
        have hlt : ((n : Int) < 0) = False := eq_false (by omega)
        have hrow := poRows_get l n hnl
        rw [po_get hnl] at hN
        have eS : (poRows l).set n [.v (.int .i64 l[n].n), .l 4 (mRows l[n].row)] = poRows l := by
          rw [poRows_set, List.set_getElem_self]
        by_cases h3 : l[n].row.length = 3
        · rw [if_pos h3] at hN
          have e2 : pHearV l o ⟨f, t, p, h, i, a, false, u, xs⟩ = l := hear_else hb (by rw [hN]; decide)
          have h3b : ((l[n].row.length : Int) == 3) = true := beq_iff_eq.2 (by omega)
          rw [hN, e2]
          simp (maxSteps := 3000000) only [Try.f136, sph, g_portsOk, g_portsCopied, g_mailFromT, g_packetOk, g_portAt, bytesOf_rows, rowsOf_len, poRows_len, mRows_len, posOf_rows, Bool.not_true, Bool.not_false, D.toI, D.toL, poRow, hb, b1, b2', b3', b4', b5, n1, n2, n3, n4, poI_some ha, hlt, hrow, h3b, eS, Int.toNat_natCast, ↓reduceIte, Bool.false_eq_true, tYs, evL, implies_true, oMin, oCopy, oBin, oUn, oLoadKid, oStoreTree, oField, oExtract, oNil, oSliceQ, oLoadRow, takeCells, TS.atRow, TS.ex, treeMode, AV.isOwn, TK.isSl, nilTk, nilsB, oLenQ, oLen, nodupB, treeOf, kidAbs, kidRows, TK.isCell, D.toL, oLoad, oStore, oMake, oIndexAddr, ↓reduceIte, reduceCtorEq, Nat.reduceBEq, Nat.reduceAdd, Nat.reduceMul, Nat.reduceLT, Nat.reduceSub, Nat.reduceLeDiff, Nat.reduceEqDiff, Nat.reduceBneDiff, Int.reduceToNat, decide_eq_true_eq, decide_eq_false_iff_not, beq_iff_eq, Int.toNat_natCast]
          exact ⟨⟨_, rfl, hm⟩, ⟨_, rfl, hm⟩, ⟨_, rfl, hl⟩, ⟨_, rfl, hn⟩, ⟨by omega, by omega⟩, hnl, _, [(0, some _)], rfl, ⟨⟨⟨rfl, rfl, rfl⟩, trivial⟩, ⟨.inl rfl, rfl, rfl, rfl, trivial⟩, by simp [rn, hpAt]⟩⟩
        · rw [if_neg h3] at hN
          have h3b : ((l[n].row.length : Int) == 3) = false := by rw [beq_eq_false_iff_ne]; omega
          have e2 : pHearV l o ⟨f, t, p, h, i, a, false, u, xs⟩ = putM l n (mfM f xs) := by
            rw [pHearV, if_pos hb, if_pos hN]
            dsimp only
            rw [hM, ha]
          have e3 : mRows l[n].row ++ [[D.v (.int .i64 f), D.v (.int .i64 ((xs.getD 0 0).toNat : Int)), D.v (.int .i64 ((xs.getD 1 0).toNat : Int)), D.l 1 (rowsOfBytes ((xs.drop 3).take (xs.length - 5)))]] = mRows (l[n].row ++ [mfM f xs]) := by
            rw [← mRows_app]; rfl
          have e4 : (poRows l).set n [.v (.int .i64 l[n].n), .l 4 (mRows (l[n].row ++ [mfM f xs]))] = poRows (putM l n (mfM f xs)) := by
            rw [putM, po_get hnl, ← poRows_set]
          rw [hN, e2]
          simp (maxSteps := 3000000) only [Try.f136, sph, g_portsOk, g_portsCopied, g_mailFromT, g_packetOk, g_portAt, bytesOf_rows, rowsOf_len, poRows_len, mRows_len, posOf_rows, Bool.not_true, Bool.not_false, D.toI, D.toL, poRow, hb, b1, b2', b3', b4', b5, n1, n2, n3, n4, poI_some ha, hlt, hrow, h3b, eS, e3, e4, Int.toNat_natCast, ↓reduceIte, Bool.false_eq_true, tYs, evL, implies_true, oMin, oCopy, oBin, oUn, oLoadKid, oStoreTree, oField, oExtract, oNil, oSliceQ, oLoadRow, takeCells, TS.atRow, TS.ex, treeMode, AV.isOwn, TK.isSl, nilTk, nilsB, oLenQ, oLen, nodupB, treeOf, kidAbs, kidRows, TK.isCell, D.toL, oLoad, oStore, oMake, oIndexAddr, ↓reduceIte, reduceCtorEq, Nat.reduceBEq, Nat.reduceAdd, Nat.reduceMul, Nat.reduceLT, Nat.reduceSub, Nat.reduceLeDiff, Nat.reduceEqDiff, Nat.reduceBneDiff, Int.reduceToNat, decide_eq_true_eq, decide_eq_false_iff_not, beq_iff_eq, Int.toNat_natCast]
          refine ⟨⟨_, rfl, hm⟩, ⟨_, rfl, hm⟩, ⟨_, rfl, hl⟩, ⟨_, rfl, hn⟩, ⟨by omega, by omega⟩, hnl, ⟨by omega, by omega⟩, hnl, ⟨by omega, by omega⟩, ⟨by omega, by omega⟩, hnl, by kernel_rfl, ?_⟩
          exact ⟨_, [(0, some _)], rfl, ⟨⟨⟨rfl, rfl, rfl⟩, trivial⟩, ⟨.inl rfl, rfl, rfl, rfl, trivial⟩, by simp [rn, hpAt]⟩⟩
  · cases hg
end Go.Proofs.Ytegffkmakkccaaa
