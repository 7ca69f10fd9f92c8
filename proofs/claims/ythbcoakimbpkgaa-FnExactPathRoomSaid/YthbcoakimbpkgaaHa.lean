import Derived.Test.YthbcoakimbpkgaaXi
import Derived.Test.YthbcoakimbpkgaaVk
import Derived.Test.YthbcoakimbpkgaaTv
import Derived.Test.YthbcoakimbpkgaaR7
import Derived.Test.YthbcoakimbpkgaaVf
import Derived.Test.YthbcoakimbpkgaaVa
import Derived.Test.YthbcoakimbpkgaaNum
namespace Go.Proofs.Ythbcoakimbpkgaa
open Go.RowKit
set_option linter.unusedSimpArgs false
set_option linter.unusedVariables false
def hln : List (FuncId × Abs) := [(70, ownAbs g_packet), (69, ownAbs g_pick), (110, ownAbs g_bytes)]
end Go.Proofs.Ythbcoakimbpkgaa
