import Derived.Test.YtegffkmakkccaaaTn
import Derived.Test.YtegffkmakkccaaaTd
import Derived.Test.YtegffkmakkccaaaR6
namespace Go.Proofs.Ytegffkmakkccaaa
open Go.RowKit
set_option linter.unusedSimpArgs false
abbrev nilA : AV := .v (.slice none 0 0)
end Go.Proofs.Ytegffkmakkccaaa
namespace Go.Proofs.Ytegffkmakkccaaa
open Go.RowKit
set_option linter.unusedSimpArgs false
end Go.Proofs.Ytegffkmakkccaaa
