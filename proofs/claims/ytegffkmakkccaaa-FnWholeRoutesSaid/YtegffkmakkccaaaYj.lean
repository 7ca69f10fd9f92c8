import Derived.Test.YtegffkmakkccaaaYh
import Derived.Test.YtegffkmakkccaaaYe
import Derived.Test.YtegffkmakkccaaaTc
import Derived.Test.YtegffkmakkccaaaR6
namespace Go.Proofs.Ytegffkmakkccaaa
open Go.RowKit
set_option linter.unusedSimpArgs false
set_option linter.unusedVariables false
theorem put_rs {l : List RE} {r : RE} (h : putB l r = true) : rsB l = true ∧ rOkB r = true ∧ rsB (putV l r) = true := by
  have h' := h
  simp only [putB, Bool.and_eq_true, decide_eq_true_eq] at h'
  refine ⟨h'.1.1, h'.1.2, ?_⟩
  rw [putV_yes h]
  exact rsB_iff.2 ⟨h'.2, withR_ok (rsB_iff.1 h'.1.1).2 h'.1.2⟩
theorem less_rs {l : List RE} (h : rsB l = true) : rsB (lessV l) = true ∧ (lessV l).length ≤ l.length ∧ lessV (lessV l) = lessV l ∧ ∀ x, VR (lastFit (lessV l) x) = VR (lastFit l x) := by
  obtain ⟨h8, ho⟩ := rsB_iff.1 h
  obtain ⟨h1, h2, h3⟩ := lessF_ok l [] ho
  have hl := h2.length_le
  have hr : rsB (lessV l) = true := by rw [lessV_yes h]; exact rsB_iff.2 ⟨by simp only [List.nil_append] at hl; omega, h1⟩
  refine ⟨hr, by rw [lessV_yes h]; simpa using hl, ?_, fun x => by rw [lessV_yes h]; simpa using h3 x⟩
  rw [lessV_yes hr, lessV_yes h]
  exact less_again ho
end Go.Proofs.Ytegffkmakkccaaa
