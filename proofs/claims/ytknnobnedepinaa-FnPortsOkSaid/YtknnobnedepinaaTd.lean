import Derived.Test.YtknnobnedepinaaTb
import Derived.Test.YtknnobnedepinaaSh
import Derived.Test.YtknnobnedepinaaFm
import Derived.Test.YtknnobnedepinaaSc
namespace Go.Proofs.Ytknnobnedepinaa
open Go.RowKit
set_option linter.unusedSimpArgs false
structure QueryV where
  k : Int
  l : Int
  a : Int
  w : Int
  p : Int
end Go.Proofs.Ytknnobnedepinaa
