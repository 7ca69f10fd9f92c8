import Derived.Test.YtegffkmakkccaaaTc
set_option linter.unusedVariables false
set_option linter.unusedSimpArgs false
namespace Go.Proofs.Ytegffkmakkccaaa
open Go.RowKit
set_option linter.unusedSimpArgs false
def pkR (f t p h i a : Int) (n : Nat) : Bool := decide (((0 ≤ f ∧ f ≤ 65535) ∧ (0 ≤ t ∧ t ≤ 65535)) ∧ (0 ≤ p ∧ p ≤ 255) ∧ (0 ≤ h ∧ h ≤ 255) ∧ (0 ≤ i ∧ i ≤ 255) ∧ (0 ≤ a ∧ a ≤ 255) ∧ n ≤ 48)
def pkM (a : Int) (m u : Bool) (n : Nat) : Bool := (!m || decide (0 < n)) && (!u || (decide (a = 0) && !m))
def pkB (f t p h i a : Int) (m u : Bool) (n : Nat) : Bool := pkR f t p h i a n && pkM a m u n
def pkK (m u : Bool) : Int := (if m = true then 1 else 0) + (if u = true then 2 else 0)
def g_pkR : PC := fun args => match args with
  | [.agg [.v (.int .i64 f), .v (.int .i64 t), .v (.int .i64 p), .v (.int .i64 h), .v (.int .i64 i), .v (.int .i64 a), .v (.bool m), .v (.bool u), .l _ rows]] => some (True, .v (.bool (pkR f t p h i a rows.length)), [])
  | _ => none
def g_pkM : PC := fun args => match args with
  | [.agg [.v (.int .i64 f), .v (.int .i64 t), .v (.int .i64 p), .v (.int .i64 h), .v (.int .i64 i), .v (.int .i64 a), .v (.bool m), .v (.bool u), .l _ rows]] => some (True, .v (.bool (pkM a m u rows.length)), [])
  | _ => none
def g_packetOk : PC := fun args => match args with
  | [.agg [.v (.int .i64 f), .v (.int .i64 t), .v (.int .i64 p), .v (.int .i64 h), .v (.int .i64 i), .v (.int .i64 a), .v (.bool m), .v (.bool u), .l _ rows]] => some (True, .v (.bool (pkB f t p h i a m u rows.length)), [])
  | _ => none
def g_pkKi : PC := fun args => match args with
  | [.agg [.v (.int .i64 f), .v (.int .i64 t), .v (.int .i64 p), .v (.int .i64 h), .v (.int .i64 i), .v (.int .i64 a), .v (.bool m), .v (.bool u), .l _ rows]] => some (True, .v (.int .u8 (pkK m u)), [])
  | _ => none
def pk1 : List (FuncId × Abs) := [(126, pureAbs g_isPair), (127, pureAbs g_isByte), (65, pureAbs g_l1In)]
theorem pk1_ok : ∀ p ∈ pk1, CallOk Try.prog p.1 p.2 := by
  intro p hp
  simp only [pk1, List.mem_cons, List.not_mem_nil, or_false] at hp
  rcases hp with rfl | rfl | rfl
  · exact isAddr_ok.call
  · exact isByte_ok.call
  · exact l1In_ok.call
set_option maxRecDepth 100000 in
theorem packetInRange_ok : PureOk Try.prog 71 g_pkR := by
  refine PureOk.of_vc (G := pk1) pk1_ok mixed Try.func71 (by kernel_rfl) rfl ?_
  intro args cnd r bs hg hc
  unfold g_pkR at hg
  split at hg
  · rename_i f t p h i a m u sz rows
    cases hg
    refine ⟨⟨rfl, by simp, by simp [AV.ids, AV.ids.idsL]⟩, _, rfl, fun w vs h => h, ?_⟩
    simp (maxSteps := 3000000) only [Try.f71, pk1, g_isPair, g_isByte, g_l1In, tYs, evL, implies_true, oMin, oCopy, oBin, oUn, oLoadKid, oStoreTree, oField, oExtract, oNil, oSliceQ, oLoadRow, takeCells, TS.atRow, TS.ex, treeMode, AV.isOwn, TK.isSl, nilTk, nilsB, oLenQ, oLen, nodupB, treeOf, kidAbs, kidRows, TK.isCell, D.toL, oLoad, oStore, oMake, oIndexAddr, ↓reduceIte, reduceCtorEq, Nat.reduceBEq, Nat.reduceAdd, Nat.reduceMul, Nat.reduceLT, Nat.reduceSub, Nat.reduceLeDiff, Nat.reduceEqDiff, Nat.reduceBneDiff, Int.reduceToNat, decide_eq_true_eq, decide_eq_false_iff_not, beq_iff_eq, Int.toNat_natCast]
    repeat' split
    all_goals (refine ⟨_, [], rfl, ⟨⟨⟨?_, rfl, rfl⟩, trivial⟩, by simp [hpAt, fitH], by simp [hpAt]⟩⟩; refine congrArg (fun b => AV.v (Value.bool b)) ?_; first | rfl | (rw [Bool.eq_iff_iff]; simp only [pkB, pkR, pkM, decide_eq_true_eq, inZ, Bool.and_eq_true, Bool.or_eq_true, Bool.and_true, Bool.and_false, Bool.true_and, Bool.false_and, Bool.true_or, Bool.false_or, Bool.or_true, Bool.or_false, bne_iff_ne, Bool.false_eq_true, beq_eq_false_iff_ne, beq_iff_eq, ne_eq, decide_eq_false_iff_not, Bool.not_eq_eq_eq_not, Bool.not_true, Bool.not_false, false_iff, iff_false, true_iff, iff_true, and_true, true_and, and_false, false_and, not_false_eq_true, not_true_eq_false, Bool.and_eq_false_imp] at *; first | done | omega))
  · cases hg
set_option maxRecDepth 100000 in
theorem packetMarksOk_ok : PureOk Try.prog 72 g_pkM := by
  refine PureOk.of_vc (G := []) (by simp) mixed Try.func72 (by kernel_rfl) rfl ?_
  intro args cnd r bs hg hc
  unfold g_pkM at hg
  split at hg
  · rename_i f t p h i a m u sz rows
    cases hg
    refine ⟨⟨rfl, by simp, by simp [AV.ids, AV.ids.idsL]⟩, _, rfl, fun w vs h => h, ?_⟩
    cases m <;> cases u
    all_goals
      simp (maxSteps := 3000000) only [Try.f72, tYs, evL, implies_true, oMin, oCopy, oBin, oUn, oLoadKid, oStoreTree, oField, oExtract, oNil, oSliceQ, oLoadRow, takeCells, TS.atRow, TS.ex, treeMode, AV.isOwn, TK.isSl, nilTk, nilsB, oLenQ, oLen, nodupB, treeOf, kidAbs, kidRows, TK.isCell, D.toL, oLoad, oStore, oMake, oIndexAddr, ↓reduceIte, reduceCtorEq, Nat.reduceBEq, Nat.reduceAdd, Nat.reduceMul, Nat.reduceLT, Nat.reduceSub, Nat.reduceLeDiff, Nat.reduceEqDiff, Nat.reduceBneDiff, Int.reduceToNat, decide_eq_true_eq, decide_eq_false_iff_not, beq_iff_eq, Int.toNat_natCast]
      repeat' split
    all_goals (refine ⟨_, [], rfl, ⟨⟨⟨?_, rfl, rfl⟩, trivial⟩, by simp [hpAt, fitH], by simp [hpAt]⟩⟩; refine congrArg (fun b => AV.v (Value.bool b)) ?_; first | rfl | (rw [Bool.eq_iff_iff]; simp only [pkB, pkR, pkM, decide_eq_true_eq, inZ, Bool.and_eq_true, Bool.or_eq_true, Bool.and_true, Bool.and_false, Bool.true_and, Bool.false_and, Bool.true_or, Bool.false_or, Bool.or_true, Bool.or_false, bne_iff_ne, Bool.false_eq_true, beq_eq_false_iff_ne, beq_iff_eq, ne_eq, decide_eq_false_iff_not, Bool.not_eq_eq_eq_not, Bool.not_true, Bool.not_false, false_iff, iff_false, true_iff, iff_true, and_true, true_and, and_false, false_and, not_false_eq_true, not_true_eq_false, Bool.and_eq_false_imp] at *; first | done | omega))
  · cases hg
def pk2 : List (FuncId × Abs) := [(71, pureAbs g_pkR), (72, pureAbs g_pkM), (65, pureAbs g_l1In)]
theorem pk2_ok : ∀ p ∈ pk2, CallOk Try.prog p.1 p.2 := by
  intro p hp
  simp only [pk2, List.mem_cons, List.not_mem_nil, or_false] at hp
  rcases hp with rfl | rfl | rfl
  · exact packetInRange_ok.call
  · exact packetMarksOk_ok.call
  · exact l1In_ok.call
set_option maxRecDepth 100000 in
theorem implPacketOk_ok : PureOk Try.prog 19 g_packetOk := by
  refine PureOk.of_vc (G := pk2) pk2_ok mixed Try.func19 (by kernel_rfl) rfl ?_
  intro args cnd r bs hg hc
  unfold g_packetOk at hg
  split at hg
  · rename_i f t p h i a m u sz rows
    cases hg
    refine ⟨⟨rfl, by simp, by simp [AV.ids, AV.ids.idsL]⟩, _, rfl, fun w vs h => h, ?_⟩
    simp (maxSteps := 3000000) only [Try.f19, pk2, g_pkR, g_pkM, tYs, evL, implies_true, oMin, oCopy, oBin, oUn, oLoadKid, oStoreTree, oField, oExtract, oNil, oSliceQ, oLoadRow, takeCells, TS.atRow, TS.ex, treeMode, AV.isOwn, TK.isSl, nilTk, nilsB, oLenQ, oLen, nodupB, treeOf, kidAbs, kidRows, TK.isCell, D.toL, oLoad, oStore, oMake, oIndexAddr, ↓reduceIte, reduceCtorEq, Nat.reduceBEq, Nat.reduceAdd, Nat.reduceMul, Nat.reduceLT, Nat.reduceSub, Nat.reduceLeDiff, Nat.reduceEqDiff, Nat.reduceBneDiff, Int.reduceToNat, decide_eq_true_eq, decide_eq_false_iff_not, beq_iff_eq, Int.toNat_natCast]
    rcases hr : pkR f t p h i a rows.length with _ | _ <;> rcases hm : pkM a m u rows.length with _ | _
    all_goals simp only [pkB, hr, hm, if_true, if_false, Bool.false_eq_true, Bool.and_true, Bool.and_false, Bool.true_and, Bool.false_and]
    all_goals (refine ⟨_, [], rfl, ⟨⟨⟨?_, rfl, rfl⟩, trivial⟩, by simp [hpAt, fitH], by simp [hpAt]⟩⟩; refine congrArg (fun b => AV.v (Value.bool b)) ?_; first | rfl | (rw [Bool.eq_iff_iff]; simp only [decide_eq_true_eq, frB, inZ, Bool.false_eq_true, beq_eq_false_iff_ne, beq_iff_eq, ne_eq, decide_eq_false_iff_not, Bool.not_eq_eq_eq_not, Bool.not_true, Bool.not_false, false_iff, iff_false, true_iff, iff_true] at *; omega))
  · cases hg
set_option maxRecDepth 100000 in
theorem packetMarks_ok : PureOk Try.prog 174 g_pkKi := by
  refine PureOk.of_vc (G := []) (by simp) mixed Try.func174 (by kernel_rfl) rfl ?_
  intro args cnd r bs hg hc
  unfold g_pkKi at hg
  split at hg
  · rename_i f t p h i a m u sz rows
    cases hg
    refine ⟨⟨rfl, by simp, by simp [AV.ids, AV.ids.idsL]⟩, _, rfl, fun w vs h => h, ?_⟩
    cases m <;> cases u
    all_goals
      simp (maxSteps := 3000000) only [Try.f174, tYs, evL, implies_true, oMin, oCopy, oBin, oUn, oLoadKid, oStoreTree, oField, oExtract, oNil, oSliceQ, oLoadRow, takeCells, TS.atRow, TS.ex, treeMode, AV.isOwn, TK.isSl, nilTk, nilsB, oLenQ, oLen, nodupB, treeOf, kidAbs, kidRows, TK.isCell, D.toL, oLoad, oStore, oMake, oIndexAddr, ↓reduceIte, reduceCtorEq, Nat.reduceBEq, Nat.reduceAdd, Nat.reduceMul, Nat.reduceLT, Nat.reduceSub, Nat.reduceLeDiff, Nat.reduceEqDiff, Nat.reduceBneDiff, Int.reduceToNat, decide_eq_true_eq, decide_eq_false_iff_not, beq_iff_eq, Int.toNat_natCast]
      exact ⟨_, [], rfl, by (refine ⟨?_, ?_, ?_⟩ <;> simp [packA, hpAt, fitT, fit1, fitH, fitB, trE, emptyB, rn, lk, AV.ren, AV.ren.renL, Blk.ren, blkIds, blkPids, AV.ids, AV.ids.idsL, AV.pids, AV.pids.pidsL, Blk.there]); kernel_rfl⟩
  · cases hg
end Go.Proofs.Ytegffkmakkccaaa
