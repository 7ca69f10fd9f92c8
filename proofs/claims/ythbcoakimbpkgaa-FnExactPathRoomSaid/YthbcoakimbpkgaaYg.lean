import Derived.Test.YthbcoakimbpkgaaYf
import Derived.Test.YthbcoakimbpkgaaTp
import Derived.Test.YthbcoakimbpkgaaR7
namespace Go.Proofs.Ythbcoakimbpkgaa
open Go.RowKit
set_option linter.unusedSimpArgs false
set_option linter.unusedVariables false
def rtKinds : List KD := [.int .i64, .int .i64, .int .i64, .int .i64]
end Go.Proofs.Ythbcoakimbpkgaa
