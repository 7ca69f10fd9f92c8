import Derived.Test.YtdjnndicbndfmaaMa
import Derived.Test.YtdjnndicbndfmaaTn
import Derived.Test.YtdjnndicbndfmaaTc
import Derived.Test.YtdjnndicbndfmaaR6
set_option linter.unusedVariables false
set_option linter.unusedSimpArgs false
namespace Go.Proofs.Ytdjnndicbndfmaa
open Go.RowKit
set_option linter.unusedSimpArgs false
theorem sqV_bd (x : Int) : 0 ≤ sqV x ∧ sqV x < 65536 := by unfold sqV; omega
def I64 (x : Int) : Prop := -9223372036854775808 ≤ x ∧ x ≤ 9223372036854775807
def g_seqOf : PC := fun args => match args with
  | [.v (.int .i64 x)] => some (I64 x, .v (.int .i64 (sqV x)), [])
  | _ => none
def g_seqLess : PC := fun args => match args with
  | [.v (.int .i64 a), .v (.int .i64 b)] => some (I64 a ∧ I64 b, .v (.bool (sqL a b)), [])
  | _ => none
def g_seqSteps : PC := fun args => match args with
  | [.v (.int .i64 a), .v (.int .i64 b)] => some (I64 a ∧ I64 b, .v (.int .i64 (sqV (sqV b - sqV a))), [])
  | _ => none
def g_seqPlace : PC := fun args => match args with
  | [.v (.int .i64 a), .v (.int .i64 b)] => some (I64 a ∧ I64 b, .v (.int .i64 (sqP a b)), [])
  | _ => none
def g_place : PC := fun args => match args with
  | [.v (.int .i64 x)] => some (True, .v (.bool (inZ x 0 1000000)), [])
  | _ => none
def g_isSeq : PC := fun args => match args with
  | [.v (.int .i64 x)] => some (True, .v (.bool (inZ x 0 65535)), [])
  | _ => none
set_option maxRecDepth 100000 in
theorem implSeqOf_ok : PureOk Try.prog 10 g_seqOf := by
  refine PureOk.of_vc (G := []) (by simp) mixed Try.func10 (by kernel_rfl) rfl ?_
  intro args cnd r bs hg hc
  unfold g_seqOf at hg
  split at hg
  · rename_i x
    cases hg
    have hx := hc
    unfold I64 at hx
    have t := Int.tmod_lt_of_pos x (show (0 : Int) < 65536 by decide)
    have t2 : -65536 < x.tmod 65536 := by
      rcases Int.le_total 0 x with h | h
      · have := Int.tmod_nonneg 65536 h; omega
      · have := Int.tmod_nonneg 65536 (show 0 ≤ -x by omega); have := Int.tmod_lt_of_pos (-x) (show (0 : Int) < 65536 by decide); rw [Int.neg_tmod] at *; omega
    have e := sq_tmod x
    have w1 : IntKind.i64.wrap (x.tmod 65536) = x.tmod 65536 := wrap_id (by omega) (by omega)
    have w2 : IntKind.i64.wrap (x.tmod 65536 + 65536) = x.tmod 65536 + 65536 := wrap_id (by omega) (by omega)
    refine ⟨⟨rfl, by simp, by simp [AV.ids, AV.ids.idsL]⟩, _, rfl, fun w vs h => h, ?_⟩
    simp (maxSteps := 3000000) only [Try.f10, w1, w2, tYs, evL, implies_true, oMin, oCopy, oBin, oUn, oLoadKid, oStoreTree, oField, oExtract, oNil, oSliceQ, oLoadRow, takeCells, TS.atRow, TS.ex, treeMode, AV.isOwn, TK.isSl, nilTk, nilsB, oLenQ, oLen, nodupB, treeOf, kidAbs, kidRows, TK.isCell, D.toL, oLoad, oStore, oMake, oIndexAddr, ↓reduceIte, reduceCtorEq, Nat.reduceBEq, Nat.reduceAdd, Nat.reduceMul, Nat.reduceLT, Nat.reduceSub, Nat.reduceLeDiff, Nat.reduceEqDiff, Nat.reduceBneDiff, Int.reduceToNat, decide_eq_true_eq, decide_eq_false_iff_not, beq_iff_eq, Int.toNat_natCast]
    refine ⟨by decide, ?_⟩
    by_cases h : x.tmod 65536 < 0
    · rw [if_pos h] at e ⊢
      rw [e]
      exact ⟨_, [], rfl, ⟨⟨⟨rfl, rfl, rfl⟩, trivial⟩, trivial, by simp [rn, hpAt]⟩⟩
    · rw [if_neg h] at e ⊢
      rw [e]
      exact ⟨_, [], rfl, ⟨⟨⟨rfl, rfl, rfl⟩, trivial⟩, trivial, by simp [rn, hpAt]⟩⟩
  · cases hg
set_option maxRecDepth 100000 in
theorem specSeqOf_ok : PureOk Try.prog 11 g_seqOf := by
  refine PureOk.of_vc (G := []) (by simp) mixed Try.func11 (by kernel_rfl) rfl ?_
  intro args cnd r bs hg hc
  unfold g_seqOf at hg
  split at hg
  · rename_i x
    cases hg
    have hx := hc
    unfold I64 at hx
    have t := Int.tmod_lt_of_pos x (show (0 : Int) < 65536 by decide)
    have t2 : -65536 < x.tmod 65536 := by
      rcases Int.le_total 0 x with h | h
      · have := Int.tmod_nonneg 65536 h; omega
      · have := Int.tmod_nonneg 65536 (show 0 ≤ -x by omega); have := Int.tmod_lt_of_pos (-x) (show (0 : Int) < 65536 by decide); rw [Int.neg_tmod] at *; omega
    have e := sq_tmod x
    have w1 : IntKind.i64.wrap (x.tmod 65536) = x.tmod 65536 := wrap_id (by omega) (by omega)
    have w2 : IntKind.i64.wrap (x.tmod 65536 + 65536) = x.tmod 65536 + 65536 := wrap_id (by omega) (by omega)
    refine ⟨⟨rfl, by simp, by simp [AV.ids, AV.ids.idsL]⟩, _, rfl, fun w vs h => h, ?_⟩
    simp (maxSteps := 3000000) only [Try.f11, w1, w2, tYs, evL, implies_true, oMin, oCopy, oBin, oUn, oLoadKid, oStoreTree, oField, oExtract, oNil, oSliceQ, oLoadRow, takeCells, TS.atRow, TS.ex, treeMode, AV.isOwn, TK.isSl, nilTk, nilsB, oLenQ, oLen, nodupB, treeOf, kidAbs, kidRows, TK.isCell, D.toL, oLoad, oStore, oMake, oIndexAddr, ↓reduceIte, reduceCtorEq, Nat.reduceBEq, Nat.reduceAdd, Nat.reduceMul, Nat.reduceLT, Nat.reduceSub, Nat.reduceLeDiff, Nat.reduceEqDiff, Nat.reduceBneDiff, Int.reduceToNat, decide_eq_true_eq, decide_eq_false_iff_not, beq_iff_eq, Int.toNat_natCast]
    refine ⟨by decide, ?_⟩
    by_cases h : x.tmod 65536 < 0
    · rw [if_pos h] at e ⊢
      rw [e]
      exact ⟨_, [], rfl, ⟨⟨⟨rfl, rfl, rfl⟩, trivial⟩, trivial, by simp [rn, hpAt]⟩⟩
    · rw [if_neg h] at e ⊢
      rw [e]
      exact ⟨_, [], rfl, ⟨⟨⟨rfl, rfl, rfl⟩, trivial⟩, trivial, by simp [rn, hpAt]⟩⟩
  · cases hg
set_option maxRecDepth 100000 in
theorem isPlace_ok : PureOk Try.prog 24 g_place := by
  refine PureOk.of_vc (G := []) (by simp) mixed Try.func24 (by kernel_rfl) rfl ?_
  intro args cnd r bs hg hc
  unfold g_place at hg
  split at hg
  · rename_i x
    cases hg
    refine ⟨⟨rfl, by simp, by simp [AV.ids, AV.ids.idsL]⟩, _, rfl, fun w vs h => h, ?_⟩
    simp (maxSteps := 3000000) only [Try.f24, tYs, evL, implies_true, oMin, oCopy, oBin, oUn, oLoadKid, oStoreTree, oField, oExtract, oNil, oSliceQ, oLoadRow, takeCells, TS.atRow, TS.ex, treeMode, AV.isOwn, TK.isSl, nilTk, nilsB, oLenQ, oLen, nodupB, treeOf, kidAbs, kidRows, TK.isCell, D.toL, oLoad, oStore, oMake, oIndexAddr, ↓reduceIte, reduceCtorEq, Nat.reduceBEq, Nat.reduceAdd, Nat.reduceMul, Nat.reduceLT, Nat.reduceSub, Nat.reduceLeDiff, Nat.reduceEqDiff, Nat.reduceBneDiff, Int.reduceToNat, decide_eq_true_eq, decide_eq_false_iff_not, beq_iff_eq, Int.toNat_natCast]
    repeat' first
      | split
      | refine And.intro (by kernel_rfl) ?_
    all_goals (refine ⟨_, [], rfl, ⟨⟨⟨?_, rfl, rfl⟩, trivial⟩, by simp [hpAt, fitH], by simp [hpAt]⟩⟩; refine congrArg (fun b => AV.v (Value.bool b)) ?_; first | rfl | (rw [Bool.eq_iff_iff]; simp only [decide_eq_true_eq, inZ, Bool.and_eq_true, Bool.or_eq_true, bne_iff_ne, Bool.false_eq_true, beq_eq_false_iff_ne, beq_iff_eq, ne_eq, decide_eq_false_iff_not, Bool.not_eq_eq_eq_not, Bool.not_true, Bool.not_false, false_iff, iff_false, true_iff, iff_true] at *; omega))
  · cases hg
set_option maxRecDepth 100000 in
theorem isSeq_ok : PureOk Try.prog 25 g_isSeq := by
  refine PureOk.of_vc (G := []) (by simp) mixed Try.func25 (by kernel_rfl) rfl ?_
  intro args cnd r bs hg hc
  unfold g_isSeq at hg
  split at hg
  · rename_i x
    cases hg
    refine ⟨⟨rfl, by simp, by simp [AV.ids, AV.ids.idsL]⟩, _, rfl, fun w vs h => h, ?_⟩
    simp (maxSteps := 3000000) only [Try.f25, tYs, evL, implies_true, oMin, oCopy, oBin, oUn, oLoadKid, oStoreTree, oField, oExtract, oNil, oSliceQ, oLoadRow, takeCells, TS.atRow, TS.ex, treeMode, AV.isOwn, TK.isSl, nilTk, nilsB, oLenQ, oLen, nodupB, treeOf, kidAbs, kidRows, TK.isCell, D.toL, oLoad, oStore, oMake, oIndexAddr, ↓reduceIte, reduceCtorEq, Nat.reduceBEq, Nat.reduceAdd, Nat.reduceMul, Nat.reduceLT, Nat.reduceSub, Nat.reduceLeDiff, Nat.reduceEqDiff, Nat.reduceBneDiff, Int.reduceToNat, decide_eq_true_eq, decide_eq_false_iff_not, beq_iff_eq, Int.toNat_natCast]
    repeat' first
      | split
      | refine And.intro (by kernel_rfl) ?_
    all_goals (refine ⟨_, [], rfl, ⟨⟨⟨?_, rfl, rfl⟩, trivial⟩, by simp [hpAt, fitH], by simp [hpAt]⟩⟩; refine congrArg (fun b => AV.v (Value.bool b)) ?_; first | rfl | (rw [Bool.eq_iff_iff]; simp only [decide_eq_true_eq, inZ, Bool.and_eq_true, Bool.or_eq_true, bne_iff_ne, Bool.false_eq_true, beq_eq_false_iff_ne, beq_iff_eq, ne_eq, decide_eq_false_iff_not, Bool.not_eq_eq_eq_not, Bool.not_true, Bool.not_false, false_iff, iff_false, true_iff, iff_true] at *; omega))
  · cases hg
def sq1 : List (FuncId × Abs) := [(10, pureAbs g_seqOf)]
theorem sq1_ok : ∀ p ∈ sq1, CallOk Try.prog p.1 p.2 := by
  intro p hp
  simp only [sq1, List.mem_cons, List.not_mem_nil, or_false] at hp
  rcases hp with rfl
  · exact implSeqOf_ok.call
set_option maxRecDepth 100000 in
theorem seqSteps_ok : PureOk Try.prog 23 g_seqSteps := by
  refine PureOk.of_vc (G := sq1) sq1_ok mixed Try.func23 (by kernel_rfl) rfl ?_
  intro args cnd r bs hg hc
  unfold g_seqSteps at hg
  split at hg
  · rename_i a b
    cases hg
    obtain ⟨ha, hb⟩ := hc
    have b1 := sqV_bd a
    have b2 := sqV_bd b
    have w1 : IntKind.i64.wrap (sqV b - sqV a) = sqV b - sqV a := wrap_id (by omega) (by omega)
    have i1 : I64 (sqV b - sqV a) := by unfold I64; omega
    refine ⟨⟨rfl, by simp, by simp [AV.ids, AV.ids.idsL]⟩, _, rfl, fun w vs h => h, ?_⟩
    simp (maxSteps := 3000000) only [Try.f23, sq1, g_seqOf, w1, tYs, evL, implies_true, oMin, oCopy, oBin, oUn, oLoadKid, oStoreTree, oField, oExtract, oNil, oSliceQ, oLoadRow, takeCells, TS.atRow, TS.ex, treeMode, AV.isOwn, TK.isSl, nilTk, nilsB, oLenQ, oLen, nodupB, treeOf, kidAbs, kidRows, TK.isCell, D.toL, oLoad, oStore, oMake, oIndexAddr, ↓reduceIte, reduceCtorEq, Nat.reduceBEq, Nat.reduceAdd, Nat.reduceMul, Nat.reduceLT, Nat.reduceSub, Nat.reduceLeDiff, Nat.reduceEqDiff, Nat.reduceBneDiff, Int.reduceToNat, decide_eq_true_eq, decide_eq_false_iff_not, beq_iff_eq, Int.toNat_natCast]
    refine ⟨hb, ha, i1, ?_⟩
    exact ⟨_, [], rfl, ⟨⟨⟨rfl, rfl, rfl⟩, trivial⟩, trivial, by simp [rn, hpAt]⟩⟩
  · cases hg
def sq2 : List (FuncId × Abs) := [(23, pureAbs g_seqSteps)]
theorem sq2_ok : ∀ p ∈ sq2, CallOk Try.prog p.1 p.2 := by
  intro p hp
  simp only [sq2, List.mem_cons, List.not_mem_nil, or_false] at hp
  rcases hp with rfl
  · exact seqSteps_ok.call
set_option maxRecDepth 100000 in
theorem implSeqLess_ok : PureOk Try.prog 14 g_seqLess := by
  refine PureOk.of_vc (G := sq2) sq2_ok mixed Try.func14 (by kernel_rfl) rfl ?_
  intro args cnd r bs hg hc
  unfold g_seqLess at hg
  split at hg
  · rename_i a b
    cases hg
    obtain ⟨ha, hb⟩ := hc
    have b1 := sqV_bd a
    have b2 := sqV_bd b
    have w1 : IntKind.i64.wrap (sqV b - sqV a) = sqV b - sqV a := wrap_id (by omega) (by omega)
    have i1 : I64 (sqV b - sqV a) := by unfold I64; omega
    refine ⟨⟨rfl, by simp, by simp [AV.ids, AV.ids.idsL]⟩, _, rfl, fun w vs h => h, ?_⟩
    simp (maxSteps := 3000000) only [Try.f14, sq2, g_seqSteps, tYs, evL, implies_true, oMin, oCopy, oBin, oUn, oLoadKid, oStoreTree, oField, oExtract, oNil, oSliceQ, oLoadRow, takeCells, TS.atRow, TS.ex, treeMode, AV.isOwn, TK.isSl, nilTk, nilsB, oLenQ, oLen, nodupB, treeOf, kidAbs, kidRows, TK.isCell, D.toL, oLoad, oStore, oMake, oIndexAddr, ↓reduceIte, reduceCtorEq, Nat.reduceBEq, Nat.reduceAdd, Nat.reduceMul, Nat.reduceLT, Nat.reduceSub, Nat.reduceLeDiff, Nat.reduceEqDiff, Nat.reduceBneDiff, Int.reduceToNat, decide_eq_true_eq, decide_eq_false_iff_not, beq_iff_eq, Int.toNat_natCast]
    refine ⟨⟨ha, hb⟩, ?_⟩
    obtain ⟨d, hd⟩ : ∃ d, d = sqV (sqV b - sqV a) := ⟨_, rfl⟩
    have e : sqL a b = (decide (1 ≤ d) && decide (d < 32768)) := by rw [sqL, ← hd]
    rw [← hd, e]
    repeat' first
      | split
      | refine And.intro (by kernel_rfl) ?_
    all_goals (refine ⟨_, [], rfl, ⟨⟨⟨?_, rfl, rfl⟩, trivial⟩, by simp [hpAt, fitH], by simp [hpAt]⟩⟩; refine congrArg (fun b => AV.v (Value.bool b)) ?_; first | rfl | (rw [Bool.eq_iff_iff]; simp only [decide_eq_true_eq, inZ, Bool.and_eq_true, Bool.or_eq_true, bne_iff_ne, Bool.false_eq_true, beq_eq_false_iff_ne, beq_iff_eq, ne_eq, decide_eq_false_iff_not, Bool.not_eq_eq_eq_not, Bool.not_true, Bool.not_false, false_iff, iff_false, true_iff, iff_true] at *; omega))
  · cases hg
def sq3 : List (FuncId × Abs) := [(11, pureAbs g_seqOf), (26, pureAbs g_l1In)]
theorem sq3_ok : ∀ p ∈ sq3, CallOk Try.prog p.1 p.2 := by
  intro p hp
  simp only [sq3, List.mem_cons, List.not_mem_nil, or_false] at hp
  rcases hp with rfl | rfl
  · exact specSeqOf_ok.call
  · exact l1In_ok.call
set_option maxRecDepth 100000 in
theorem specSeqLess_ok : PureOk Try.prog 15 g_seqLess := by
  refine PureOk.of_vc (G := sq3) sq3_ok mixed Try.func15 (by kernel_rfl) rfl ?_
  intro args cnd r bs hg hc
  unfold g_seqLess at hg
  split at hg
  · rename_i a b
    cases hg
    obtain ⟨ha, hb⟩ := hc
    have b1 := sqV_bd a
    have b2 := sqV_bd b
    have w1 : IntKind.i64.wrap (sqV b - sqV a) = sqV b - sqV a := wrap_id (by omega) (by omega)
    have i1 : I64 (sqV b - sqV a) := by unfold I64; omega
    refine ⟨⟨rfl, by simp, by simp [AV.ids, AV.ids.idsL]⟩, _, rfl, fun w vs h => h, ?_⟩
    simp (maxSteps := 3000000) only [Try.f15, sq3, g_seqOf, w1, tYs, evL, implies_true, oMin, oCopy, oBin, oUn, oLoadKid, oStoreTree, oField, oExtract, oNil, oSliceQ, oLoadRow, takeCells, TS.atRow, TS.ex, treeMode, AV.isOwn, TK.isSl, nilTk, nilsB, oLenQ, oLen, nodupB, treeOf, kidAbs, kidRows, TK.isCell, D.toL, oLoad, oStore, oMake, oIndexAddr, ↓reduceIte, reduceCtorEq, Nat.reduceBEq, Nat.reduceAdd, Nat.reduceMul, Nat.reduceLT, Nat.reduceSub, Nat.reduceLeDiff, Nat.reduceEqDiff, Nat.reduceBneDiff, Int.reduceToNat, decide_eq_true_eq, decide_eq_false_iff_not, beq_iff_eq, Int.toNat_natCast]
    refine ⟨hb, ha, i1, ?_⟩
    obtain ⟨d, hd⟩ : ∃ d, d = sqV (sqV b - sqV a) := ⟨_, rfl⟩
    have e : sqL a b = (decide (1 ≤ d) && decide (d < 32768)) := by rw [sqL, ← hd]
    rw [← hd, e]
    repeat' first
      | split
      | refine And.intro (by kernel_rfl) ?_
    all_goals (refine ⟨_, [], rfl, ⟨⟨⟨?_, rfl, rfl⟩, trivial⟩, by simp [hpAt, fitH], by simp [hpAt]⟩⟩; refine congrArg (fun b => AV.v (Value.bool b)) ?_; first | rfl | (rw [Bool.eq_iff_iff]; simp only [decide_eq_true_eq, inZ, Bool.and_eq_true, Bool.or_eq_true, bne_iff_ne, Bool.false_eq_true, beq_eq_false_iff_ne, beq_iff_eq, ne_eq, decide_eq_false_iff_not, Bool.not_eq_eq_eq_not, Bool.not_true, Bool.not_false, false_iff, iff_false, true_iff, iff_true] at *; omega))
  · cases hg
def sq4 : List (FuncId × Abs) := [(23, pureAbs g_seqSteps), (24, pureAbs g_place), (25, pureAbs g_isSeq)]
theorem sq4_ok : ∀ p ∈ sq4, CallOk Try.prog p.1 p.2 := by
  intro p hp
  simp only [sq4, List.mem_cons, List.not_mem_nil, or_false] at hp
  rcases hp with rfl | rfl | rfl
  · exact seqSteps_ok.call
  · exact isPlace_ok.call
  · exact isSeq_ok.call
set_option maxRecDepth 100000 in
theorem implSeqPlace_ok : PureOk Try.prog 17 g_seqPlace := by
  refine PureOk.of_vc (G := sq4) sq4_ok mixed Try.func17 (by kernel_rfl) rfl ?_
  intro args cnd r bs hg hc
  unfold g_seqPlace at hg
  split at hg
  · rename_i a b
    cases hg
    obtain ⟨ha, hb⟩ := hc
    obtain ⟨ia, hia⟩ : ∃ u, inZ a 0 1000000 = u := ⟨_, rfl⟩
    obtain ⟨ib, hib⟩ : ∃ u, inZ b 0 65535 = u := ⟨_, rfl⟩
    refine ⟨⟨rfl, by simp, by simp [AV.ids, AV.ids.idsL]⟩, _, rfl, fun w vs h => h, ?_⟩
    cases ia with
    | false =>
      rw [show sqP a b = a from sq_no (by rw [hia]; rfl)]
      simp (maxSteps := 3000000) only [Try.f17, sq4, g_seqSteps, g_place, g_isSeq, hia, tYs, evL, implies_true, oMin, oCopy, oBin, oUn, oLoadKid, oStoreTree, oField, oExtract, oNil, oSliceQ, oLoadRow, takeCells, TS.atRow, TS.ex, treeMode, AV.isOwn, TK.isSl, nilTk, nilsB, oLenQ, oLen, nodupB, treeOf, kidAbs, kidRows, TK.isCell, D.toL, oLoad, oStore, oMake, oIndexAddr, ↓reduceIte, reduceCtorEq, Nat.reduceBEq, Nat.reduceAdd, Nat.reduceMul, Nat.reduceLT, Nat.reduceSub, Nat.reduceLeDiff, Nat.reduceEqDiff, Nat.reduceBneDiff, Int.reduceToNat, decide_eq_true_eq, decide_eq_false_iff_not, beq_iff_eq, Int.toNat_natCast]
      exact ⟨_, [], rfl, ⟨⟨⟨rfl, rfl, rfl⟩, trivial⟩, trivial, by simp [rn, hpAt]⟩⟩
    | true =>
    cases ib with
    | false =>
      rw [show sqP a b = a from sq_no (by rw [hia, hib]; rfl)]
      simp (maxSteps := 3000000) only [Try.f17, sq4, g_seqSteps, g_place, g_isSeq, hia, hib, tYs, evL, implies_true, oMin, oCopy, oBin, oUn, oLoadKid, oStoreTree, oField, oExtract, oNil, oSliceQ, oLoadRow, takeCells, TS.atRow, TS.ex, treeMode, AV.isOwn, TK.isSl, nilTk, nilsB, oLenQ, oLen, nodupB, treeOf, kidAbs, kidRows, TK.isCell, D.toL, oLoad, oStore, oMake, oIndexAddr, ↓reduceIte, reduceCtorEq, Nat.reduceBEq, Nat.reduceAdd, Nat.reduceMul, Nat.reduceLT, Nat.reduceSub, Nat.reduceLeDiff, Nat.reduceEqDiff, Nat.reduceBneDiff, Int.reduceToNat, decide_eq_true_eq, decide_eq_false_iff_not, beq_iff_eq, Int.toNat_natCast]
      exact ⟨_, [], rfl, ⟨⟨⟨rfl, rfl, rfl⟩, trivial⟩, trivial, by simp [rn, hpAt]⟩⟩
    | true =>
    have hk : (0 ≤ a ∧ a ≤ 1000000) ∧ 0 ≤ b ∧ b ≤ 65535 := by simp only [inZ, decide_eq_true_eq] at hia hib; exact ⟨hia, hib⟩
    have b1 := sqV_bd a
    have hb2 : sqV b = b := by unfold sqV; omega
    have w1 : IntKind.i64.wrap (b - sqV a) = b - sqV a := wrap_id (by omega) (by omega)
    have i1 : I64 (b - sqV a) := by unfold I64; omega
    obtain ⟨u, hu⟩ : ∃ u, sqV (b - sqV a) = u := ⟨_, rfl⟩
    have b2 := sqV_bd (b - sqV a)
    rw [hu] at b2
    have hp : sqP a b = a + (if 32768 ≤ u then u - 65536 else u) := by rw [sqP, hia, hib, if_pos (show (true && true) = true from rfl), hu]
    have w3 : IntKind.i64.wrap (a + u) = a + u := wrap_id (by omega) (by omega)
    have w4 : IntKind.i64.wrap (a + u - 65536) = a + u - 65536 := wrap_id (by omega) (by omega)
    have w5 : IntKind.i64.wrap (u - 65536) = u - 65536 := wrap_id (by omega) (by omega)
    have w6 : IntKind.i64.wrap (a + (u - 65536)) = a + (u - 65536) := wrap_id (by omega) (by omega)
    by_cases h : 32768 ≤ u
    · have c1 : (u ≥ 32768) = True := eq_true h
      rw [hp, if_pos h]
      simp (maxSteps := 3000000) only [Try.f17, sq4, g_seqSteps, g_place, g_isSeq, hia, hib, hb2, hu, c1, w1, w3, w4, w5, w6, tYs, evL, implies_true, oMin, oCopy, oBin, oUn, oLoadKid, oStoreTree, oField, oExtract, oNil, oSliceQ, oLoadRow, takeCells, TS.atRow, TS.ex, treeMode, AV.isOwn, TK.isSl, nilTk, nilsB, oLenQ, oLen, nodupB, treeOf, kidAbs, kidRows, TK.isCell, D.toL, oLoad, oStore, oMake, oIndexAddr, ↓reduceIte, reduceCtorEq, Nat.reduceBEq, Nat.reduceAdd, Nat.reduceMul, Nat.reduceLT, Nat.reduceSub, Nat.reduceLeDiff, Nat.reduceEqDiff, Nat.reduceBneDiff, Int.reduceToNat, decide_eq_true_eq, decide_eq_false_iff_not, beq_iff_eq, Int.toNat_natCast]
      refine ⟨⟨ha, hb⟩, ?_⟩
      rw [show a + (u - 65536) = a + u - 65536 by omega]
      exact ⟨_, [], rfl, ⟨⟨⟨rfl, rfl, rfl⟩, trivial⟩, trivial, by simp [rn, hpAt]⟩⟩
    · have c1 : (u ≥ 32768) = False := eq_false h
      rw [hp, if_neg h]
      simp (maxSteps := 3000000) only [Try.f17, sq4, g_seqSteps, g_place, g_isSeq, hia, hib, hb2, hu, c1, w1, w3, tYs, evL, implies_true, oMin, oCopy, oBin, oUn, oLoadKid, oStoreTree, oField, oExtract, oNil, oSliceQ, oLoadRow, takeCells, TS.atRow, TS.ex, treeMode, AV.isOwn, TK.isSl, nilTk, nilsB, oLenQ, oLen, nodupB, treeOf, kidAbs, kidRows, TK.isCell, D.toL, oLoad, oStore, oMake, oIndexAddr, ↓reduceIte, reduceCtorEq, Nat.reduceBEq, Nat.reduceAdd, Nat.reduceMul, Nat.reduceLT, Nat.reduceSub, Nat.reduceLeDiff, Nat.reduceEqDiff, Nat.reduceBneDiff, Int.reduceToNat, decide_eq_true_eq, decide_eq_false_iff_not, beq_iff_eq, Int.toNat_natCast]
      refine ⟨⟨ha, hb⟩, ?_⟩
      exact ⟨_, [], rfl, ⟨⟨⟨rfl, rfl, rfl⟩, trivial⟩, trivial, by simp [rn, hpAt]⟩⟩
  · cases hg
set_option maxRecDepth 100000 in
theorem specSeqPlace_ok : PureOk Try.prog 18 g_seqPlace := by
  refine PureOk.of_vc (G := sq3) sq3_ok mixed Try.func18 (by kernel_rfl) rfl ?_
  intro args cnd r bs hg hc
  unfold g_seqPlace at hg
  split at hg
  · rename_i a b
    cases hg
    obtain ⟨ha, hb⟩ := hc
    obtain ⟨ia, hia⟩ : ∃ u, inZ a 0 1000000 = u := ⟨_, rfl⟩
    obtain ⟨ib, hib⟩ : ∃ u, inZ b 0 65535 = u := ⟨_, rfl⟩
    refine ⟨⟨rfl, by simp, by simp [AV.ids, AV.ids.idsL]⟩, _, rfl, fun w vs h => h, ?_⟩
    cases ia with
    | false =>
      rw [show sqP a b = a from sq_no (by rw [hia]; rfl)]
      simp (maxSteps := 3000000) only [Try.f18, sq3, g_seqOf, g_l1In, hia, tYs, evL, implies_true, oMin, oCopy, oBin, oUn, oLoadKid, oStoreTree, oField, oExtract, oNil, oSliceQ, oLoadRow, takeCells, TS.atRow, TS.ex, treeMode, AV.isOwn, TK.isSl, nilTk, nilsB, oLenQ, oLen, nodupB, treeOf, kidAbs, kidRows, TK.isCell, D.toL, oLoad, oStore, oMake, oIndexAddr, ↓reduceIte, reduceCtorEq, Nat.reduceBEq, Nat.reduceAdd, Nat.reduceMul, Nat.reduceLT, Nat.reduceSub, Nat.reduceLeDiff, Nat.reduceEqDiff, Nat.reduceBneDiff, Int.reduceToNat, decide_eq_true_eq, decide_eq_false_iff_not, beq_iff_eq, Int.toNat_natCast]
      exact ⟨_, [], rfl, ⟨⟨⟨rfl, rfl, rfl⟩, trivial⟩, trivial, by simp [rn, hpAt]⟩⟩
    | true =>
    cases ib with
    | false =>
      rw [show sqP a b = a from sq_no (by rw [hia, hib]; rfl)]
      simp (maxSteps := 3000000) only [Try.f18, sq3, g_seqOf, g_l1In, hia, hib, tYs, evL, implies_true, oMin, oCopy, oBin, oUn, oLoadKid, oStoreTree, oField, oExtract, oNil, oSliceQ, oLoadRow, takeCells, TS.atRow, TS.ex, treeMode, AV.isOwn, TK.isSl, nilTk, nilsB, oLenQ, oLen, nodupB, treeOf, kidAbs, kidRows, TK.isCell, D.toL, oLoad, oStore, oMake, oIndexAddr, ↓reduceIte, reduceCtorEq, Nat.reduceBEq, Nat.reduceAdd, Nat.reduceMul, Nat.reduceLT, Nat.reduceSub, Nat.reduceLeDiff, Nat.reduceEqDiff, Nat.reduceBneDiff, Int.reduceToNat, decide_eq_true_eq, decide_eq_false_iff_not, beq_iff_eq, Int.toNat_natCast]
      exact ⟨_, [], rfl, ⟨⟨⟨rfl, rfl, rfl⟩, trivial⟩, trivial, by simp [rn, hpAt]⟩⟩
    | true =>
    have hk : (0 ≤ a ∧ a ≤ 1000000) ∧ 0 ≤ b ∧ b ≤ 65535 := by simp only [inZ, decide_eq_true_eq] at hia hib; exact ⟨hia, hib⟩
    have b1 := sqV_bd a
    have hb2 : sqV b = b := by unfold sqV; omega
    have w1 : IntKind.i64.wrap (b - sqV a) = b - sqV a := wrap_id (by omega) (by omega)
    have i1 : I64 (b - sqV a) := by unfold I64; omega
    obtain ⟨u, hu⟩ : ∃ u, sqV (b - sqV a) = u := ⟨_, rfl⟩
    have b2 := sqV_bd (b - sqV a)
    rw [hu] at b2
    have hp : sqP a b = a + (if 32768 ≤ u then u - 65536 else u) := by rw [sqP, hia, hib, if_pos (show (true && true) = true from rfl), hu]
    have w3 : IntKind.i64.wrap (a + u) = a + u := wrap_id (by omega) (by omega)
    have w4 : IntKind.i64.wrap (a + u - 65536) = a + u - 65536 := wrap_id (by omega) (by omega)
    have w5 : IntKind.i64.wrap (u - 65536) = u - 65536 := wrap_id (by omega) (by omega)
    have w6 : IntKind.i64.wrap (a + (u - 65536)) = a + (u - 65536) := wrap_id (by omega) (by omega)
    by_cases h : 32768 ≤ u
    · have c1 : (u ≥ 32768) = True := eq_true h
      rw [hp, if_pos h]
      simp (maxSteps := 3000000) only [Try.f18, sq3, g_seqOf, g_l1In, hia, hib, hb2, hu, c1, w1, w3, w4, w5, w6, tYs, evL, implies_true, oMin, oCopy, oBin, oUn, oLoadKid, oStoreTree, oField, oExtract, oNil, oSliceQ, oLoadRow, takeCells, TS.atRow, TS.ex, treeMode, AV.isOwn, TK.isSl, nilTk, nilsB, oLenQ, oLen, nodupB, treeOf, kidAbs, kidRows, TK.isCell, D.toL, oLoad, oStore, oMake, oIndexAddr, ↓reduceIte, reduceCtorEq, Nat.reduceBEq, Nat.reduceAdd, Nat.reduceMul, Nat.reduceLT, Nat.reduceSub, Nat.reduceLeDiff, Nat.reduceEqDiff, Nat.reduceBneDiff, Int.reduceToNat, decide_eq_true_eq, decide_eq_false_iff_not, beq_iff_eq, Int.toNat_natCast]
      refine ⟨ha, i1, ?_⟩
      rw [show a + (u - 65536) = a + u - 65536 by omega]
      exact ⟨_, [], rfl, ⟨⟨⟨rfl, rfl, rfl⟩, trivial⟩, trivial, by simp [rn, hpAt]⟩⟩
    · have c1 : (u ≥ 32768) = False := eq_false h
      rw [hp, if_neg h]
      simp (maxSteps := 3000000) only [Try.f18, sq3, g_seqOf, g_l1In, hia, hib, hb2, hu, c1, w1, w3, tYs, evL, implies_true, oMin, oCopy, oBin, oUn, oLoadKid, oStoreTree, oField, oExtract, oNil, oSliceQ, oLoadRow, takeCells, TS.atRow, TS.ex, treeMode, AV.isOwn, TK.isSl, nilTk, nilsB, oLenQ, oLen, nodupB, treeOf, kidAbs, kidRows, TK.isCell, D.toL, oLoad, oStore, oMake, oIndexAddr, ↓reduceIte, reduceCtorEq, Nat.reduceBEq, Nat.reduceAdd, Nat.reduceMul, Nat.reduceLT, Nat.reduceSub, Nat.reduceLeDiff, Nat.reduceEqDiff, Nat.reduceBneDiff, Int.reduceToNat, decide_eq_true_eq, decide_eq_false_iff_not, beq_iff_eq, Int.toNat_natCast]
      refine ⟨ha, i1, ?_⟩
      exact ⟨_, [], rfl, ⟨⟨⟨rfl, rfl, rfl⟩, trivial⟩, trivial, by simp [rn, hpAt]⟩⟩
  · cases hg
end Go.Proofs.Ytdjnndicbndfmaa
