import Derived.Test.YtegffkmakkccaaaVa
set_option linter.unusedVariables false
set_option linter.unusedSimpArgs false
namespace Go.Proofs.Ytegffkmakkccaaa
open Go.RowKit
set_option linter.unusedSimpArgs false
theorem pkR_of {f t p h i a : Int} {m u : Bool} {n : Nat} (h0 : pkB f t p h i a m u n = true) : (((0 ≤ f ∧ f ≤ 65535) ∧ (0 ≤ t ∧ t ≤ 65535)) ∧ (0 ≤ p ∧ p ≤ 255) ∧ (0 ≤ h ∧ h ≤ 255) ∧ (0 ≤ i ∧ i ≤ 255) ∧ (0 ≤ a ∧ a ≤ 255) ∧ n ≤ 48) := by
  rw [pkB, Bool.and_eq_true, pkR, decide_eq_true_eq] at h0
  exact h0.1
end Go.Proofs.Ytegffkmakkccaaa
