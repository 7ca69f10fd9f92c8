import Derived.Test.YtmhmhgegdagjkaaHm
namespace Go.Proofs.Ytmhmhgegdagjkaa
open Go.RowKit
set_option linter.unusedSimpArgs false
set_option linter.unusedVariables false
structure Pt where
  ps : List Pk
  u : Int
def of1 (x : Pt) (q : Pk) : Bool := same4 (x.ps.getD 0 pk0) q
def g_packetCopiedS : PC := fun args => match args with
  | [.agg [.v (.int .i64 f), .v (.int .i64 t), .v (.int .i64 p), .v (.int .i64 h), .v (.int .i64 i), .v (.int .i64 a), .v (.bool m), .v (.bool u), .l _ rows]] => some (∃ xs, rows = rowsOfBytes xs ∧ xs.length ≤ 1048576, .agg [.v (.int .i64 f), .v (.int .i64 t), .v (.int .i64 p), .v (.int .i64 h), .v (.int .i64 i), .v (.int .i64 a), .v (.bool m), .v (.bool u), .own 0], [.sl 5 1 rows])
  | _ => none
end Go.Proofs.Ytmhmhgegdagjkaa
