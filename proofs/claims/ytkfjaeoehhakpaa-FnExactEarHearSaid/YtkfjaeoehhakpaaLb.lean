import Derived.Test.YtkfjaeoehhakpaaLa
import Derived.Test.YtkfjaeoehhakpaaXa
set_option linter.unusedVariables false
set_option linter.unusedSimpArgs false
namespace Go.Proofs.Ytkfjaeoehhakpaa
open Go.RowKit
structure Po where
  n : Int
  row : List Ml
end Go.Proofs.Ytkfjaeoehhakpaa
