import Derived.Test.YtcpmifgdmlpcpaaLd
import Derived.Test.YtcpmifgdmlpcpaaVa
set_option linter.unusedVariables false
set_option linter.unusedSimpArgs false
namespace Go.Proofs.Ytcpmifgdmlpcpaa
open Go.RowKit
set_option linter.unusedSimpArgs false
theorem poI_none {l : List Po} {x : Int} (h : poAt l x = none) : poI l x = -1 := by rw [poI, h]
theorem poI_some {l : List Po} {x : Int} {n : Nat} (h : poAt l x = some n) : poI l x = (n : Int) := by rw [poI, h]
end Go.Proofs.Ytcpmifgdmlpcpaa
