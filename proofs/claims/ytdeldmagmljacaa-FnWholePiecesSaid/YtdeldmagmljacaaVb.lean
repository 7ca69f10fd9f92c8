import Derived.Test.YtdeldmagmljacaaVa
set_option linter.unusedVariables false
set_option linter.unusedSimpArgs false
namespace Go.Proofs.Ytdeldmagmljacaa
open Go.RowKit
set_option linter.unusedSimpArgs false

def pkH (f t p h i a : Int) (m u : Bool) (n : Nat) : List UInt8 := bytesOf f 2 ++ (bytesOf t 2 ++ [toU8 p, toU8 h, toU8 i, toU8 a, toU8 (pkK m u), toU8 n])
def pkV (f t p h i a : Int) (m u : Bool) (xs : List UInt8) : List UInt8 :=
  if pkB f t p h i a m u xs.length = true then pkH f t p h i a m u xs.length ++ (bytesOf (sumOf (pkH f t p h i a m u xs.length)) 2 ++ xs) else []
def g_l4Head : PC := fun args => match args with
  | [.agg [.v (.int .i64 f), .v (.int .i64 t), .v (.int .i64 p), .v (.int .i64 h), .v (.int .i64 i), .v (.int .i64 a), .v (.bool m), .v (.bool u), .l _ rows]] => some (pkB f t p h i a m u rows.length = true ∧ ∃ xs, rows = rowsOfBytes xs, .own 0, [.sl 5 1 (rowsOfBytes (pkH f t p h i a m u rows.length))])
  | _ => none
def g_packetBytes : PC := fun args => match args with
  | [.agg [.v (.int .i64 f), .v (.int .i64 t), .v (.int .i64 p), .v (.int .i64 h), .v (.int .i64 i), .v (.int .i64 a), .v (.bool m), .v (.bool u), .l _ rows]] => some (∃ xs, rows = rowsOfBytes xs, .own 0, [.sl 5 1 (rowsOfBytes (pkV f t p h i a m u (bytesOfRows rows)))])
  | _ => none
end Go.Proofs.Ytdeldmagmljacaa
