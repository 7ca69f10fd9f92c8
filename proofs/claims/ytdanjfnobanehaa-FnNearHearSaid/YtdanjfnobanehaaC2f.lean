import Derived.Test.YtdanjfnobanehaaC2e
import Derived.Test.YtdanjfnobanehaaPast
namespace Go.Proofs.Ytdanjfnobanehaa
open Go.ChangeShapes Go.WideShapes Go.ChangeAt Go.RowKit

end Go.Proofs.Ytdanjfnobanehaa
