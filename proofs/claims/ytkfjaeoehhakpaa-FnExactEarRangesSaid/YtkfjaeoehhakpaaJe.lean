import Derived.Test.YtkfjaeoehhakpaaJa
import Derived.Test.YtkfjaeoehhakpaaLb
import Derived.Test.YtkfjaeoehhakpaaVa
import Derived.Test.YtkfjaeoehhakpaaR7
import Derived.Test.YtkfjaeoehhakpaaMb
import Derived.Test.YtkfjaeoehhakpaaVf
set_option linter.unusedVariables false
set_option linter.unusedSimpArgs false
namespace Go.Proofs.Ytkfjaeoehhakpaa
open Go.RowKit
set_option linter.unusedSimpArgs false
structure SgW where
  s : Sg
  q : Int
end Go.Proofs.Ytkfjaeoehhakpaa
