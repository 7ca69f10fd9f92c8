import Derived.Test.YtknnobnedepinaaTa
import Derived.Test.YtknnobnedepinaaSh
namespace Go.Proofs.Ytknnobnedepinaa
open Go.RowKit
set_option linter.unusedSimpArgs false
structure KE where
  a : Int
  l : Int
  u : Int
structure HE where
  a : Int
  d : List UInt8
end Go.Proofs.Ytknnobnedepinaa
namespace Go.Proofs.Ytknnobnedepinaa
open Go.RowKit
set_option linter.unusedSimpArgs false
end Go.Proofs.Ytknnobnedepinaa
