import Derived.Test.YthbcoakimbpkgaaKe
import Derived.Test.YthbcoakimbpkgaaHa
set_option linter.unusedVariables false
set_option linter.unusedSimpArgs false
namespace Go.Proofs.Ythbcoakimbpkgaa
open Go.RowKit
set_option linter.unusedSimpArgs false
theorem stB_of {s : St} (h : stB s = true) : rsB s.rs = true := by
  rw [stB, Bool.and_eq_true] at h; exact h.2
end Go.Proofs.Ythbcoakimbpkgaa
