import Derived.Test.YtegffkmakkccaaaLk
set_option linter.unusedVariables false
set_option linter.unusedSimpArgs false
namespace Go.Proofs.Ytegffkmakkccaaa
open Go.RowKit
set_option linter.unusedSimpArgs false
def g_samePorts : PC := fun args => match args with
  | [.l _ rows, .l _ rows'] => some (∃ l, rows = poRows l ∧ rows' = poRows l ∧ poMid l, .v (.bool true), [])
  | _ => none
def spp : List (FuncId × Abs) := [(29, pureAbs g_sameMail)]
theorem spp_ok : ∀ p ∈ spp, CallOk Try.prog p.1 p.2 := by
  intro p hp
  simp only [spp, List.mem_cons, List.not_mem_nil, or_false] at hp
  rcases hp with rfl
  · exact sameMail_ok.call
set_option maxHeartbeats 4000000 in
set_option maxRecDepth 100000 in
theorem samePorts_ok : PureOk Try.prog 30 g_samePorts := by
  refine PureOk.of_vc (G := spp) spp_ok mixed Try.func30 (by kernel_rfl) rfl ?_
  intro args cnd r bs hg hc
  unfold g_samePorts at hg
  split at hg
  · rename_i sz rows sz' rows'
    cases hg
    obtain ⟨l, rfl, rfl, hm⟩ := hc
    have hnn := hm.1
    refine ⟨⟨rfl, by simp, by simp [AV.ids, AV.ids.idsL]⟩, [.l 2 (poRows l), .l 2 (poRows l)], rfl, fun w vs h => CvL.ok (.cons (.l _ _ _ (poRows_w l)) (.cons (.l _ _ _ (poRows_w l)) .nil)) h, ?_⟩
    simp (maxSteps := 3000000) only [Try.f30, spp, poRows_len, bne_self_eq_false, Bool.false_eq_true, ↓reduceIte, tYs, evL, implies_true, oMin, oCopy, oBin, oUn, oLoadKid, oStoreTree, oField, oExtract, oNil, oSliceQ, oLoadRow, takeCells, TS.atRow, TS.ex, treeMode, AV.isOwn, TK.isSl, nilTk, nilsB, oLenQ, oLen, nodupB, treeOf, kidAbs, kidRows, TK.isCell, D.toL, oLoad, oStore, oMake, oIndexAddr, ↓reduceIte, reduceCtorEq, Nat.reduceBEq, Nat.reduceAdd, Nat.reduceMul, Nat.reduceLT, Nat.reduceSub, Nat.reduceLeDiff, Nat.reduceEqDiff, Nat.reduceBneDiff, Int.reduceToNat, decide_eq_true_eq, decide_eq_false_iff_not, beq_iff_eq, Int.toNat_natCast]
    refine e_loop _ _ _ _ _ _ _ _ (fun k : Nat => [.l 2 (poRows l), .l 2 (poRows l), .any, .any, .any, .v (.int .i64 (k : Int))] ++ List.replicate (Try.f30.ntmps - 6) .any) (fun k => []) (fun k => k ≤ l.length) (fun k => l.length - k) 0 (fun k => by simp) ?_ fun k hk' => ?_
    · exact ⟨0, [], Nat.zero_le _, ⟨⟨⟨rfl, rfl, rfl⟩, ⟨rfl, rfl, rfl⟩, trivial, trivial, trivial, ⟨rfl, rfl, rfl⟩, fitT_rep _ _ rfl⟩, trivial, by simp [rn, hpAt]⟩, by simp [keepIds]⟩
    have hk1 := hk'
    have w2 : IntKind.i64.wrap ((k : Int) + 1) = ((k + 1 : Nat) : Int) := by rw [wrap_id] <;> omega
    by_cases hk : k < l.length
    · have hrow := poRows_get l k hk
      have hlt : ((k : Int) < (l.length : Int)) = True := eq_true (by omega)
      have h0 : (0 ≤ (k : Int)) = True := eq_true (by omega)
      have hx := hm.2 l[k] (List.getElem_mem hk)
      have hx1 := hx.1
      simp (maxSteps := 3000000) only [Try.f30, spp, g_sameMail, poRows_len, mRows_len, rowsOf_len, bytesOf_rows, posOf_rows, hrow, hlt, h0, w2, D.toI, D.toL, poRow, mlRow, Bool.not_true, Bool.not_false, ne_eq, bne_self_eq_false, and_self, decide_true, ↓reduceIte, Bool.false_eq_true, tYs, evL, implies_true, oMin, oCopy, oBin, oUn, oLoadKid, oStoreTree, oField, oExtract, oNil, oSliceQ, oLoadRow, takeCells, TS.atRow, TS.ex, treeMode, AV.isOwn, TK.isSl, nilTk, nilsB, oLenQ, oLen, nodupB, treeOf, kidAbs, kidRows, TK.isCell, D.toL, oLoad, oStore, oMake, oIndexAddr, ↓reduceIte, reduceCtorEq, Nat.reduceBEq, Nat.reduceAdd, Nat.reduceMul, Nat.reduceLT, Nat.reduceSub, Nat.reduceLeDiff, Nat.reduceEqDiff, Nat.reduceBneDiff, Int.reduceToNat, decide_eq_true_eq, decide_eq_false_iff_not, beq_iff_eq, Int.toNat_natCast, loopK_normal, loopK_exit, loopK_ret]
      refine ⟨by kernel_rfl, ?_⟩
      refine e_loop _ _ _ _ _ _ _ _ (fun j : Nat => [.l 2 (poRows l), .l 2 (poRows l), .any, .any, .any, .v (.int .i64 (k : Int)), .v (.int .i64 (j : Int))] ++ List.replicate (Try.f30.ntmps - 7) .any) (fun j => []) (fun j => j ≤ l[k].row.length) (fun j => l[k].row.length - j) 0 (fun j => by simp) ?_ fun j hj' => ?_
      · exact ⟨0, [], Nat.zero_le _, ⟨⟨⟨rfl, rfl, rfl⟩, ⟨rfl, rfl, rfl⟩, trivial, trivial, trivial, ⟨rfl, rfl, rfl⟩, ⟨rfl, rfl, rfl⟩, fitT_rep _ _ rfl⟩, trivial, by simp [rn, hpAt]⟩, by simp [keepIds]⟩
      have hj1 := hj'
      have wj : IntKind.i64.wrap ((j : Int) + 1) = ((j + 1 : Nat) : Int) := by rw [wrap_id] <;> omega
      by_cases hj : j < l[k].row.length
      · have hrm := mRows_get l[k].row j hj
        have hjl : ((j : Int) < (l[k].row.length : Int)) = True := eq_true (by omega)
        have hj0 : (0 ≤ (j : Int)) = True := eq_true (by omega)
        simp (maxSteps := 3000000) only [Try.f30, spp, g_sameMail, poRows_len, mRows_len, rowsOf_len, bytesOf_rows, posOf_rows, hrow, hlt, h0, hrm, hjl, hj0, wj, D.toI, D.toL, poRow, mlRow, Bool.not_true, Bool.not_false, ne_eq, bne_self_eq_false, and_self, decide_true, ↓reduceIte, Bool.false_eq_true, tYs, evL, implies_true, oMin, oCopy, oBin, oUn, oLoadKid, oStoreTree, oField, oExtract, oNil, oSliceQ, oLoadRow, takeCells, TS.atRow, TS.ex, treeMode, AV.isOwn, TK.isSl, nilTk, nilsB, oLenQ, oLen, nodupB, treeOf, kidAbs, kidRows, TK.isCell, D.toL, oLoad, oStore, oMake, oIndexAddr, ↓reduceIte, reduceCtorEq, Nat.reduceBEq, Nat.reduceAdd, Nat.reduceMul, Nat.reduceLT, Nat.reduceSub, Nat.reduceLeDiff, Nat.reduceEqDiff, Nat.reduceBneDiff, Int.reduceToNat, decide_eq_true_eq, decide_eq_false_iff_not, beq_iff_eq, Int.toNat_natCast, loopK_normal, loopK_exit, loopK_ret]
        refine ⟨⟨_, rfl⟩, by kernel_rfl, ?_⟩
        exact ⟨j + 1, [], by omega, by omega, ⟨⟨⟨rfl, rfl, rfl⟩, ⟨rfl, rfl, rfl⟩, trivial, trivial, trivial, ⟨rfl, rfl, rfl⟩, ⟨rfl, rfl, rfl⟩, fitT_rep _ _ rfl⟩, trivial, by simp [rn, hpAt]⟩, by simp [keepIds]⟩
      · have hjl : ((j : Int) < (l[k].row.length : Int)) = False := eq_false (by omega)
        simp (maxSteps := 3000000) only [Try.f30, spp, g_sameMail, poRows_len, mRows_len, rowsOf_len, bytesOf_rows, posOf_rows, hrow, hlt, h0, hjl, w2, D.toI, D.toL, poRow, mlRow, Bool.not_true, Bool.not_false, ne_eq, bne_self_eq_false, and_self, decide_true, ↓reduceIte, Bool.false_eq_true, tYs, evL, implies_true, oMin, oCopy, oBin, oUn, oLoadKid, oStoreTree, oField, oExtract, oNil, oSliceQ, oLoadRow, takeCells, TS.atRow, TS.ex, treeMode, AV.isOwn, TK.isSl, nilTk, nilsB, oLenQ, oLen, nodupB, treeOf, kidAbs, kidRows, TK.isCell, D.toL, oLoad, oStore, oMake, oIndexAddr, ↓reduceIte, reduceCtorEq, Nat.reduceBEq, Nat.reduceAdd, Nat.reduceMul, Nat.reduceLT, Nat.reduceSub, Nat.reduceLeDiff, Nat.reduceEqDiff, Nat.reduceBneDiff, Int.reduceToNat, decide_eq_true_eq, decide_eq_false_iff_not, beq_iff_eq, Int.toNat_natCast, loopK_normal, loopK_exit, loopK_ret]
        exact ⟨k + 1, [], by omega, by omega, ⟨⟨⟨rfl, rfl, rfl⟩, ⟨rfl, rfl, rfl⟩, trivial, trivial, trivial, ⟨rfl, rfl, rfl⟩, fitT_rep _ _ rfl⟩, trivial, by simp [rn, hpAt]⟩, by simp [keepIds]⟩
    · have hlt : ((k : Int) < (l.length : Int)) = False := eq_false (by omega)
      simp (maxSteps := 3000000) only [Try.f30, spp, g_sameMail, poRows_len, mRows_len, rowsOf_len, bytesOf_rows, posOf_rows, hlt, D.toI, D.toL, poRow, mlRow, Bool.not_true, Bool.not_false, ne_eq, bne_self_eq_false, and_self, decide_true, ↓reduceIte, Bool.false_eq_true, tYs, evL, implies_true, oMin, oCopy, oBin, oUn, oLoadKid, oStoreTree, oField, oExtract, oNil, oSliceQ, oLoadRow, takeCells, TS.atRow, TS.ex, treeMode, AV.isOwn, TK.isSl, nilTk, nilsB, oLenQ, oLen, nodupB, treeOf, kidAbs, kidRows, TK.isCell, D.toL, oLoad, oStore, oMake, oIndexAddr, ↓reduceIte, reduceCtorEq, Nat.reduceBEq, Nat.reduceAdd, Nat.reduceMul, Nat.reduceLT, Nat.reduceSub, Nat.reduceLeDiff, Nat.reduceEqDiff, Nat.reduceBneDiff, Int.reduceToNat, decide_eq_true_eq, decide_eq_false_iff_not, beq_iff_eq, Int.toNat_natCast, loopK_normal, loopK_exit, loopK_ret]
      exact ⟨_, [], rfl, ⟨⟨⟨rfl, rfl, rfl⟩, trivial⟩, trivial, by simp [rn, hpAt]⟩⟩
  · cases hg
end Go.Proofs.Ytegffkmakkccaaa
