import Derived.Test.YtloffpgdclbkhaaXa
namespace Go.Proofs.Ytloffpgdclbkhaa
open Go.RowKit
set_option linter.unusedSimpArgs false
set_option linter.unusedVariables false

/-! the document's PacketCut -/
def g_sPacketCut : PC := fun args => match args with
  | [.agg [.v (.int .i64 f), .v (.int .i64 t), .v (.int .i64 p), .v (.int .i64 h), .v (.int .i64 i), .v (.int .i64 a), .v (.bool m), .v (.bool u), .l _ rows], .v (.int .i64 l)] => some (∃ xs, rows = rowsOfBytes xs ∧ xs.length ≤ 1048576, .tup [.l 9 (pRows (cutL ⟨f, t, p, h, i, a, m, u, bytesOfRows rows⟩ l)), .v (.bool (cutB ⟨f, t, p, h, i, a, m, u, bytesOfRows rows⟩ l))], [])
  | _ => none
def spc : List (FuncId × Abs) := [(40, pureAbs g_packetOk), (41, pureAbs g_l1In)]
end Go.Proofs.Ytloffpgdclbkhaa
