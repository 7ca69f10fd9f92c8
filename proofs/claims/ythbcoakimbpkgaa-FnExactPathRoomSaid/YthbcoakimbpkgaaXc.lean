import Derived.Test.YthbcoakimbpkgaaXb
namespace Go.Proofs.Ythbcoakimbpkgaa
open Go.RowKit
set_option linter.unusedSimpArgs false
set_option linter.unusedVariables false
def joinD (ps : List Pk) : List UInt8 := ps.flatMap fun x => x.d
end Go.Proofs.Ythbcoakimbpkgaa
