import Derived.Test.YtdjnndicbndfmaaSc
import Derived.Test.YtdjnndicbndfmaaC1a
import Derived.Test.YtdjnndicbndfmaaC2f
namespace Go.Proofs.Ytdjnndicbndfmaa
open Go.RowKit
set_option linter.unusedSimpArgs false
structure KE where
  a : Int
  l : Int
  u : Int
structure HE where
  a : Int
  d : List UInt8
end Go.Proofs.Ytdjnndicbndfmaa
namespace Go.Proofs.Ytdjnndicbndfmaa
open Go.RowKit
set_option linter.unusedSimpArgs false
end Go.Proofs.Ytdjnndicbndfmaa
