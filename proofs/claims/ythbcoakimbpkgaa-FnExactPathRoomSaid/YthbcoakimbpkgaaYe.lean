import Derived.Test.YthbcoakimbpkgaaYc
namespace Go.Proofs.Ythbcoakimbpkgaa
open Go.RowKit
set_option linter.unusedSimpArgs false
set_option linter.unusedVariables false
def lss : List (FuncId × Abs) := [(65, pureAbs g_routesOk), (115, pureAbs g_routeFits)]
theorem putV_len {l : List RE} (r : RE) : (putV l r).length ≤ 8 := by
  rw [putV]
  split
  · rename_i h
    simp only [putB, Bool.and_eq_true, decide_eq_true_eq] at h
    exact h.2
  · exact Nat.zero_le _
end Go.Proofs.Ythbcoakimbpkgaa
