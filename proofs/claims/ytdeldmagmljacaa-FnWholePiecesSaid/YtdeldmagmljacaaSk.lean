import Derived.Test.YtdeldmagmljacaaSh
namespace Go.Proofs.Ytdeldmagmljacaa
open Go.RowKit
set_option linter.unusedSimpArgs false

def g_sameFrame : PC := fun args => match args with
  | [.agg [.v (.int .i64 t), .v (.int .i64 f), .v (.int .i64 k), .l _ rows], .agg [.v (.int .i64 t'), .v (.int .i64 f'), .v (.int .i64 k'), .l _ rows']] => some ((∃ xs, rows = rowsOfBytes xs) ∧ (∃ ys, rows' = rowsOfBytes ys), .v (.bool (decide (t = t' ∧ f = f' ∧ k = k' ∧ bytesOfRows rows = bytesOfRows rows'))), [])
  | _ => none
end Go.Proofs.Ytdeldmagmljacaa
