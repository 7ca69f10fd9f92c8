import Derived.Test.YtlhgbpgikgkecaaTa
import Derived.Test.YtlhgbpgikgkecaaSh
import Derived.Test.YtlhgbpgikgkecaaLw
namespace Go.Proofs.Ytlhgbpgikgkecaa
open Go.RowKit
set_option linter.unusedSimpArgs false

/-! old contracts of numbers, told of the plain machine -/
def g_numberAt : PC := fun args => match args with
  | [.l _ rows, .v (.int .i64 a), .v (.int .i64 n)] => some (∃ xs, rows = rowsOfBytes xs ∧ xs.length ≤ 140737488355328, .v (.int .i64 (numAt (bytesOfRows rows) a n)), [])
  | _ => none
/-! chapter 3: queries as bytes -/
def qbV (k l a w : Int) : List UInt8 := if qB k l a w = true then [toU8 k, toU8 l] ++ bytesOf a 2 ++ bytesOf w 2 else []
def g_queryBytes : PC := fun args => match args with
  | [.agg [.v (.int .i64 k), .v (.int .i64 l), .v (.int .i64 a), .v (.int .i64 w)]] => some (True, .own 0, [.sl 5 1 (rowsOfBytes (qbV k l a w))])
  | _ => none
/-- the query that bytes tell, or none -/
def qfOk (xs : List UInt8) : Bool := decide (xs.length = 6) && qB ((xs.getD 0 0).toNat : Int) ((xs.getD 1 0).toNat : Int) (numAt xs 2 2) (numAt xs 4 2)
def qfK (xs : List UInt8) : Int := if qfOk xs = true then ((xs.getD 0 0).toNat : Int) else 0
def qfL (xs : List UInt8) : Int := if qfOk xs = true then ((xs.getD 1 0).toNat : Int) else 0
def qfA (xs : List UInt8) : Int := if qfOk xs = true then numAt xs 2 2 else 0
def qfW (xs : List UInt8) : Int := if qfOk xs = true then numAt xs 4 2 else 0
def g_queryFrom : PC := fun args => match args with
  | [.l _ rows] => some (∃ xs, rows = rowsOfBytes xs ∧ xs.length ≤ 140737488355328, .tup [.agg [.v (.int .i64 (qfK (bytesOfRows rows))), .v (.int .i64 (qfL (bytesOfRows rows))), .v (.int .i64 (qfA (bytesOfRows rows))), .v (.int .i64 (qfW (bytesOfRows rows)))], .v (.bool (qfOk (bytesOfRows rows)))], [])
  | _ => none
/-- is a query answered -/
def ntB (link addr k l a w : Int) : Bool := qB k l a w && decide (k = 1 ∧ w = addr) && qB 2 link addr a
def g_nearTells : PC := fun args => match args with
  | [.v (.int .i64 link), .v (.int .i64 addr), .agg [.v (.int .i64 k), .v (.int .i64 l), .v (.int .i64 a), .v (.int .i64 w)]] => some (True, .tup [.agg [.v (.int .i64 (if ntB link addr k l a w = true then 2 else 0)), .v (.int .i64 (if ntB link addr k l a w = true then link else 0)), .v (.int .i64 (if ntB link addr k l a w = true then addr else 0)), .v (.int .i64 (if ntB link addr k l a w = true then a else 0))], .v (.bool (ntB link addr k l a w))], [])
  | _ => none
/-! bytes copied -/
def g_bytesCopied : PC := fun args => match args with
  | [.l _ rows] => some (∃ xs, rows = rowsOfBytes xs ∧ xs.length ≤ 1048576, .own 0, [.sl 5 1 rows])
  | _ => none
end Go.Proofs.Ytlhgbpgikgkecaa
