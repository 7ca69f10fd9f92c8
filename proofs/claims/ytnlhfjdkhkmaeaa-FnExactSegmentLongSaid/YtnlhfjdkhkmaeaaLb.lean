import Derived.Test.YtnlhfjdkhkmaeaaLa
import Derived.Test.YtnlhfjdkhkmaeaaVk
import Derived.Test.YtnlhfjdkhkmaeaaTv
import Derived.Test.YtnlhfjdkhkmaeaaR7
set_option linter.unusedVariables false
set_option linter.unusedSimpArgs false
namespace Go.Proofs.Ytnlhfjdkhkmaeaa
open Go.RowKit
structure Po where
  n : Int
  row : List Ml
end Go.Proofs.Ytnlhfjdkhkmaeaa
