import Derived.Test.YtkfjaeoehhakpaaIf
import Derived.Test.YtkfjaeoehhakpaaJe
set_option linter.unusedVariables false
set_option linter.unusedSimpArgs false
namespace Go.Proofs.Ytkfjaeoehhakpaa
open Go.RowKit
set_option linter.unusedSimpArgs false
structure ES where
  q : Int
  e : Ea
end Go.Proofs.Ytkfjaeoehhakpaa
