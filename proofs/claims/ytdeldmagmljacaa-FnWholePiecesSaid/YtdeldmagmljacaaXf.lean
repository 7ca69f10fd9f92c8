import Derived.Test.YtdeldmagmljacaaXe
namespace Go.Proofs.Ytdeldmagmljacaa
open Go.RowKit
set_option linter.unusedSimpArgs false
set_option linter.unusedVariables false

/-! the given parts -/
theorem same4_iff {x y : Pk} : same4 x y = true ↔ x.f = y.f ∧ x.t = y.t ∧ x.p = y.p ∧ x.i = y.i := by simp [same4]
def spo : List (FuncId × Abs) := [(45, pureAbs g_packetOk), (53, pureAbs g_ofOne), (46, pureAbs g_l1In)]
def sps : List (FuncId × Abs) := [(20, pureAbs g_partOk), (53, pureAbs g_ofOne)]
def slp : List (FuncId × Abs) := [(61, pureAbs g_packetCopied)]
end Go.Proofs.Ytdeldmagmljacaa
