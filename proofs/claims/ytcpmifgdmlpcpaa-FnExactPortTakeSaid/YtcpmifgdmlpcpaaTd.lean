import Derived.Test.YtcpmifgdmlpcpaaTb
import Derived.Test.YtcpmifgdmlpcpaaSm
namespace Go.Proofs.Ytcpmifgdmlpcpaa
open Go.RowKit
set_option linter.unusedSimpArgs false
structure QueryV where
  k : Int
  l : Int
  a : Int
  w : Int
  p : Int
end Go.Proofs.Ytcpmifgdmlpcpaa
