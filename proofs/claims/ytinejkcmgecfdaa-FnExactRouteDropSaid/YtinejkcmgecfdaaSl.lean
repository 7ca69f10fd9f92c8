import Derived.Test.YtinejkcmgecfdaaSk
import Derived.Test.YtinejkcmgecfdaaFm
namespace Go.Proofs.Ytinejkcmgecfdaa
open Go.RowKit
set_option linter.unusedSimpArgs false

end Go.Proofs.Ytinejkcmgecfdaa
