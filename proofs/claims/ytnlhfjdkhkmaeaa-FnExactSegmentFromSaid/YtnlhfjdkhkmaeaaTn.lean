import Derived.Test.YtnlhfjdkhkmaeaaTa
import Derived.Test.YtnlhfjdkhkmaeaaSh
namespace Go.Proofs.Ytnlhfjdkhkmaeaa
open Go.RowKit
set_option linter.unusedSimpArgs false
structure KE where
  a : Int
  l : Int
  u : Int
structure HE where
  a : Int
  d : List UInt8
end Go.Proofs.Ytnlhfjdkhkmaeaa
namespace Go.Proofs.Ytnlhfjdkhkmaeaa
open Go.RowKit
set_option linter.unusedSimpArgs false
end Go.Proofs.Ytnlhfjdkhkmaeaa
