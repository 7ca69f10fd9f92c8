import Derived.Test.YthbcoakimbpkgaaVa
import Derived.Test.YthbcoakimbpkgaaNum
import Derived.Test.YthbcoakimbpkgaaVf
set_option linter.unusedVariables false
set_option linter.unusedSimpArgs false
namespace Go.Proofs.Ythbcoakimbpkgaa
open Go.RowKit
set_option linter.unusedSimpArgs false
structure NtW where
  k : Int
  n : Int
  d : List UInt8
  q : Int
end Go.Proofs.Ythbcoakimbpkgaa
