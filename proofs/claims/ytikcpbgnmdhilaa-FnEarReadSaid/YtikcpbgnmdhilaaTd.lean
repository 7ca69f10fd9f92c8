import Derived.Test.YtikcpbgnmdhilaaTb
import Derived.Test.YtikcpbgnmdhilaaSh
import Derived.Test.YtikcpbgnmdhilaaSc
namespace Go.Proofs.Ytikcpbgnmdhilaa
open Go.RowKit
set_option linter.unusedSimpArgs false
structure QueryV where
  k : Int
  l : Int
  a : Int
  w : Int
  p : Int
end Go.Proofs.Ytikcpbgnmdhilaa
