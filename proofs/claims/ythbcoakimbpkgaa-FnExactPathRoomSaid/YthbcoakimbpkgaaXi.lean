import Derived.Test.YthbcoakimbpkgaaXe
namespace Go.Proofs.Ythbcoakimbpkgaa
open Go.RowKit
set_option linter.unusedSimpArgs false
set_option linter.unusedVariables false
structure HS where
  d : Bool
  w : Pk
  b : Bool
  F : List Pt
def hs0 : HS := ⟨false, pk0, false, []⟩
end Go.Proofs.Ythbcoakimbpkgaa
