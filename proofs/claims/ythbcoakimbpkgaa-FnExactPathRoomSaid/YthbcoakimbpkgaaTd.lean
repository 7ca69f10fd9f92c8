import Derived.Test.YthbcoakimbpkgaaTa
import Derived.Test.YthbcoakimbpkgaaSc
import Derived.Test.YthbcoakimbpkgaaC1a
import Derived.Test.YthbcoakimbpkgaaC2f
import Derived.Test.YthbcoakimbpkgaaLw
namespace Go.Proofs.Ythbcoakimbpkgaa
open Go.RowKit
set_option linter.unusedSimpArgs false
structure QueryV where
  k : Int
  l : Int
  a : Int
  w : Int
  p : Int
end Go.Proofs.Ythbcoakimbpkgaa
