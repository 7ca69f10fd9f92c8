import Derived.Test.YtnlhfjdkhkmaeaaTb
import Derived.Test.YtnlhfjdkhkmaeaaSm
namespace Go.Proofs.Ytnlhfjdkhkmaeaa
open Go.RowKit
set_option linter.unusedSimpArgs false
structure QueryV where
  k : Int
  l : Int
  a : Int
  w : Int
  p : Int
end Go.Proofs.Ytnlhfjdkhkmaeaa
