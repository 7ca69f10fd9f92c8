import Derived.Test.YtnnpijjdjdnffabSg
namespace Go.Proofs.Ytnnpijjdjdnffab
open Go.RowKit
set_option linter.unusedSimpArgs false

def fbH (t f k : Int) (xs : List UInt8) : List UInt8 := [toU8 t, toU8 f, toU8 k, toU8 xs.length] ++ xs
def fbV (t f k : Int) (xs : List UInt8) : List UInt8 := if frB t f k xs.length = true then fbH t f k xs ++ bytesOf (sumOf (fbH t f k xs)) 2 else []
def g_frameBytes : PC := fun args => match args with
  | [.agg [.v (.int .i64 t), .v (.int .i64 f), .v (.int .i64 k), .l _ rows]] => some (∃ xs, rows = rowsOfBytes xs, .own 0, [.sl 5 1 (rowsOfBytes (fbV t f k (bytesOfRows rows)))])
  | _ => none
end Go.Proofs.Ytnnpijjdjdnffab
