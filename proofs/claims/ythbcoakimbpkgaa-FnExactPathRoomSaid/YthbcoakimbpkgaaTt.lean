import Derived.Test.YthbcoakimbpkgaaTn
import Derived.Test.YthbcoakimbpkgaaTd
import Derived.Test.YthbcoakimbpkgaaR6
namespace Go.Proofs.Ythbcoakimbpkgaa
open Go.RowKit
set_option linter.unusedSimpArgs false
abbrev nilA : AV := .v (.slice none 0 0)
end Go.Proofs.Ythbcoakimbpkgaa
namespace Go.Proofs.Ythbcoakimbpkgaa
open Go.RowKit
set_option linter.unusedSimpArgs false
end Go.Proofs.Ythbcoakimbpkgaa
