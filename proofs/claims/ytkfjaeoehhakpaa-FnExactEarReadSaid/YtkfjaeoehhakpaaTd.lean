import Derived.Test.YtkfjaeoehhakpaaTb
import Derived.Test.YtkfjaeoehhakpaaSm
namespace Go.Proofs.Ytkfjaeoehhakpaa
open Go.RowKit
set_option linter.unusedSimpArgs false
structure QueryV where
  k : Int
  l : Int
  a : Int
  w : Int
  p : Int
end Go.Proofs.Ytkfjaeoehhakpaa
