import Derived.Test.YtikcpbgnmdhilaaLa
import Derived.Test.YtikcpbgnmdhilaaXa
set_option linter.unusedVariables false
set_option linter.unusedSimpArgs false
namespace Go.Proofs.Ytikcpbgnmdhilaa
open Go.RowKit
structure Po where
  n : Int
  row : List Ml
end Go.Proofs.Ytikcpbgnmdhilaa
