import Derived.Test.YtegffkmakkccaaaTa
import Derived.Test.YtegffkmakkccaaaSh
namespace Go.Proofs.Ytegffkmakkccaaa
open Go.RowKit
set_option linter.unusedSimpArgs false
structure KE where
  a : Int
  l : Int
  u : Int
structure HE where
  a : Int
  d : List UInt8
def hOk (h : HE) : Bool := decide ((0 ≤ h.a ∧ h.a ≤ 65535) ∧ h.d.length ≤ 64)
def g_isTime : PC := fun args => match args with
  | [.v (.int .i64 v)] => some (True, .v (.bool (inZ v 0 1000000)), [])
  | _ => none
set_option maxRecDepth 100000 in
theorem isTime_ok : PureOk Try.prog 118 g_isTime := by
  refine PureOk.of_vc (G := []) (by simp) mixed Try.func118 (by kernel_rfl) rfl ?_
  intro args cnd r bs hg hc
  unfold g_isTime at hg
  split at hg
  · rename_i v
    cases hg
    refine ⟨⟨rfl, by simp, by simp [AV.ids, AV.ids.idsL]⟩, _, rfl, fun w vs h => h, ?_⟩
    simp (maxSteps := 3000000) only [Try.f118, tYs, evL, implies_true, oMin, oCopy, oBin, oUn, oLoadKid, oStoreTree, oField, oExtract, oNil, oSliceQ, oLoadRow, takeCells, TS.atRow, TS.ex, treeMode, AV.isOwn, TK.isSl, nilTk, nilsB, oLenQ, oLen, nodupB, treeOf, kidAbs, kidRows, TK.isCell, D.toL, oLoad, oStore, oMake, oIndexAddr, ↓reduceIte, reduceCtorEq, Nat.reduceBEq, Nat.reduceAdd, Nat.reduceMul, Nat.reduceLT, Nat.reduceSub, Nat.reduceLeDiff, Nat.reduceEqDiff, Nat.reduceBneDiff, Int.reduceToNat, decide_eq_true_eq, decide_eq_false_iff_not, beq_iff_eq, Int.toNat_natCast]
    repeat' split
    all_goals (refine ⟨_, [], rfl, ⟨⟨⟨?_, rfl, rfl⟩, trivial⟩, by simp [hpAt, fitH], by simp [hpAt]⟩⟩; refine congrArg (fun b => AV.v (Value.bool b)) ?_; first | rfl | (rw [Bool.eq_iff_iff]; simp only [decide_eq_true_eq, inZ, Bool.and_eq_true, Bool.or_eq_true, bne_iff_ne, Bool.false_eq_true, beq_eq_false_iff_ne, beq_iff_eq, ne_eq, decide_eq_false_iff_not, Bool.not_eq_eq_eq_not, Bool.not_true, Bool.not_false, false_iff, iff_false, true_iff, iff_true] at *; omega))
  · cases hg
end Go.Proofs.Ytegffkmakkccaaa
namespace Go.Proofs.Ytegffkmakkccaaa
open Go.RowKit
set_option linter.unusedSimpArgs false
end Go.Proofs.Ytegffkmakkccaaa
