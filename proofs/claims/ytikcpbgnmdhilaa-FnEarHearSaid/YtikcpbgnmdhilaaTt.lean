import Derived.Test.YtikcpbgnmdhilaaTn
import Derived.Test.YtikcpbgnmdhilaaTd
import Derived.Test.YtikcpbgnmdhilaaR6
namespace Go.Proofs.Ytikcpbgnmdhilaa
open Go.RowKit
set_option linter.unusedSimpArgs false
abbrev nilA : AV := .v (.slice none 0 0)
end Go.Proofs.Ytikcpbgnmdhilaa
namespace Go.Proofs.Ytikcpbgnmdhilaa
open Go.RowKit
set_option linter.unusedSimpArgs false
end Go.Proofs.Ytikcpbgnmdhilaa
