import Derived.Test.YtlhgbpgikgkecaaSh
namespace Go.Proofs.Ytlhgbpgikgkecaa
open Go.RowKit

/-! mathematics of frames: a turned bit, a byte less, a byte more -/
/-! frBytes is fbV, and is read back -/
end Go.Proofs.Ytlhgbpgikgkecaa
