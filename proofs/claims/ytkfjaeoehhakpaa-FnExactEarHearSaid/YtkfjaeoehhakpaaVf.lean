import Derived.Test.YtkfjaeoehhakpaaVa
import Derived.Test.YtkfjaeoehhakpaaR6
set_option linter.unusedVariables false
set_option linter.unusedSimpArgs false
namespace Go.Proofs.Ytkfjaeoehhakpaa
open Go.RowKit
set_option linter.unusedSimpArgs false
structure PkV where
  f : Int
  t : Int
  pr : Int
  h : Int
  i : Int
  a : Int
  m : Bool
  u : Bool
  d : List UInt8
  q : Int
end Go.Proofs.Ytkfjaeoehhakpaa
