import Derived.Test.YtikcpbgnmdhilaaJa
import Derived.Test.YtikcpbgnmdhilaaLb
import Derived.Test.YtikcpbgnmdhilaaVa
import Derived.Test.YtikcpbgnmdhilaaR7
import Derived.Test.YtikcpbgnmdhilaaMb
import Derived.Test.YtikcpbgnmdhilaaVf
set_option linter.unusedVariables false
set_option linter.unusedSimpArgs false
namespace Go.Proofs.Ytikcpbgnmdhilaa
open Go.RowKit
set_option linter.unusedSimpArgs false
structure SgW where
  s : Sg
  q : Int
end Go.Proofs.Ytikcpbgnmdhilaa
