import Derived.Test.YtcpmifgdmlpcpaaVa
import Derived.Test.YtcpmifgdmlpcpaaR6
set_option linter.unusedVariables false
set_option linter.unusedSimpArgs false
namespace Go.Proofs.Ytcpmifgdmlpcpaa
open Go.RowKit
set_option linter.unusedSimpArgs false
structure PkV where
  f : Int
  t : Int
  pr : Int
  h : Int
  i : Int
  a : Int
  m : Bool
  u : Bool
  d : List UInt8
  q : Int
end Go.Proofs.Ytcpmifgdmlpcpaa
