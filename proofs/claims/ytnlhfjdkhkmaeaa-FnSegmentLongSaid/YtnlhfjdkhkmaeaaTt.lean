import Derived.Test.YtnlhfjdkhkmaeaaTn
import Derived.Test.YtnlhfjdkhkmaeaaTd
import Derived.Test.YtnlhfjdkhkmaeaaR6
namespace Go.Proofs.Ytnlhfjdkhkmaeaa
open Go.RowKit
set_option linter.unusedSimpArgs false
abbrev nilA : AV := .v (.slice none 0 0)
end Go.Proofs.Ytnlhfjdkhkmaeaa
namespace Go.Proofs.Ytnlhfjdkhkmaeaa
open Go.RowKit
set_option linter.unusedSimpArgs false
end Go.Proofs.Ytnlhfjdkhkmaeaa
