import Derived.Test.YtkfjaeoehhakpaaTn
import Derived.Test.YtkfjaeoehhakpaaTd
import Derived.Test.YtkfjaeoehhakpaaR6
namespace Go.Proofs.Ytkfjaeoehhakpaa
open Go.RowKit
set_option linter.unusedSimpArgs false
abbrev nilA : AV := .v (.slice none 0 0)
end Go.Proofs.Ytkfjaeoehhakpaa
namespace Go.Proofs.Ytkfjaeoehhakpaa
open Go.RowKit
set_option linter.unusedSimpArgs false
end Go.Proofs.Ytkfjaeoehhakpaa
