import Derived.Test.YthbcoakimbpkgaaVk
import Derived.Test.YthbcoakimbpkgaaTv
import Derived.Test.YthbcoakimbpkgaaR7
import Derived.Test.YthbcoakimbpkgaaXc
import Derived.Test.YthbcoakimbpkgaaXe
namespace Go.Proofs.Ythbcoakimbpkgaa
open Go.RowKit
set_option linter.unusedSimpArgs false
set_option linter.unusedVariables false
abbrev Ch (ps : List Pk) : Prop := ps.Pairwise fun x y => follows x y = true
end Go.Proofs.Ythbcoakimbpkgaa
