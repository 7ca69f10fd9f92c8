import Derived.Test.YtmhmhgegdagjkaaXe
namespace Go.Proofs.Ytmhmhgegdagjkaa
open Go.RowKit
set_option linter.unusedSimpArgs false
set_option linter.unusedVariables false
theorem same4_iff {x y : Pk} : same4 x y = true ↔ x.f = y.f ∧ x.t = y.t ∧ x.p = y.p ∧ x.i = y.i := by simp [same4]
end Go.Proofs.Ytmhmhgegdagjkaa
namespace Go.Proofs.Ytmhmhgegdagjkaa
open Go.RowKit
set_option linter.unusedSimpArgs false
set_option linter.unusedVariables false
theorem reach_sum {ps : List Pk} : ∀ {k : Nat}, k ≤ ps.length → reachK ps k = true → zK ps k = (sumN (ps.take k) : Int)
  | 0, _, _ => by simp [zK, sumN]
  | k + 1, hk, h => by
    rw [reachK_succ, Bool.and_eq_true, beq_iff_eq] at h
    have ih := reach_sum (k := k) (by omega) h.1
    rw [pk_get (show k < ps.length by omega)] at h
    rw [zK, if_neg (by omega), Nat.add_sub_cancel, pk_get (show k < ps.length by omega), Pk.z, sumN_take (show k < ps.length by omega)]
    omega
end Go.Proofs.Ytmhmhgegdagjkaa
