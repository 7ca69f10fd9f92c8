import Derived.Test.YtdeldmagmljacaaVb
set_option linter.unusedVariables false
set_option linter.unusedSimpArgs false
namespace Go.Proofs.Ytdeldmagmljacaa
open Go.RowKit
set_option linter.unusedSimpArgs false

/-- the packet that bytes tell, or none -/
def pfM0 (xs : List UInt8) : Bool := decide ((xs.getD 8 0).toNat % 2 = 1)
def pfU0 (xs : List UInt8) : Bool := decide (2 ≤ (xs.getD 8 0).toNat)
def pfHead (xs : List UInt8) : Bool := decide (12 ≤ xs.length ∧ xs.length ≤ 60 ∧ (xs.getD 9 0).toNat + 12 = xs.length ∧ (xs.getD 8 0).toNat ≤ 3) && fits (xs.take 10) (numAt xs 10 2)
def pfB (xs : List UInt8) : Bool := pkB (numAt xs 0 2) (numAt xs 2 2) ((xs.getD 4 0).toNat : Int) ((xs.getD 5 0).toNat : Int) ((xs.getD 6 0).toNat : Int) ((xs.getD 7 0).toNat : Int) (pfM0 xs) (pfU0 xs) (xs.drop 12).length
def pfOk (xs : List UInt8) : Bool := pfHead xs && pfB xs
def pfF (xs : List UInt8) : Int := if pfOk xs = true then numAt xs 0 2 else 0
def pfT (xs : List UInt8) : Int := if pfOk xs = true then numAt xs 2 2 else 0
def pfP (xs : List UInt8) : Int := if pfOk xs = true then ((xs.getD 4 0).toNat : Int) else 0
def pfH (xs : List UInt8) : Int := if pfOk xs = true then ((xs.getD 5 0).toNat : Int) else 0
def pfI (xs : List UInt8) : Int := if pfOk xs = true then ((xs.getD 6 0).toNat : Int) else 0
def pfA (xs : List UInt8) : Int := if pfOk xs = true then ((xs.getD 7 0).toNat : Int) else 0
def pfM (xs : List UInt8) : Bool := if pfOk xs = true then pfM0 xs else false
def pfU (xs : List UInt8) : Bool := if pfOk xs = true then pfU0 xs else false
def pfD (xs : List UInt8) : List UInt8 := if pfOk xs = true then xs.drop 12 else []
def g_headFits : PC := fun args => match args with
  | [.l _ rows] => some (∃ xs, rows = rowsOfBytes xs ∧ xs.length ≤ 1048576, .v (.bool (pfHead (bytesOfRows rows))), [])
  | _ => none
def g_packetRead : PC := fun args => match args with
  | [.l _ rows] => some (∃ xs, rows = rowsOfBytes xs ∧ pfHead xs = true, .agg [.v (.int .i64 (numAt (bytesOfRows rows) 0 2)), .v (.int .i64 (numAt (bytesOfRows rows) 2 2)), .v (.int .i64 (((bytesOfRows rows).getD 4 0).toNat : Int)), .v (.int .i64 (((bytesOfRows rows).getD 5 0).toNat : Int)), .v (.int .i64 (((bytesOfRows rows).getD 6 0).toNat : Int)), .v (.int .i64 (((bytesOfRows rows).getD 7 0).toNat : Int)), .v (.bool (pfM0 (bytesOfRows rows))), .v (.bool (pfU0 (bytesOfRows rows))), .own 0], [.sl 5 1 (rowsOfBytes ((bytesOfRows rows).drop 12))])
  | _ => none
def g_packetFrom : PC := fun args => match args with
  | [.l _ rows] => some (∃ xs, rows = rowsOfBytes xs ∧ xs.length ≤ 1048576, .tup [.agg [.v (.int .i64 (pfF (bytesOfRows rows))), .v (.int .i64 (pfT (bytesOfRows rows))), .v (.int .i64 (pfP (bytesOfRows rows))), .v (.int .i64 (pfH (bytesOfRows rows))), .v (.int .i64 (pfI (bytesOfRows rows))), .v (.int .i64 (pfA (bytesOfRows rows))), .v (.bool (pfM (bytesOfRows rows))), .v (.bool (pfU (bytesOfRows rows))), .own 0], .v (.bool (pfOk (bytesOfRows rows)))], [.sl 5 1 (rowsOfBytes (pfD (bytesOfRows rows)))])
  | _ => none
def ppOk (xs : List UInt8) : Bool := pfOk xs && decide (2 ≤ (xs.getD 5 0).toNat)
/-- with one hop less -/
def ppO (xs : List UInt8) : List UInt8 := xs.set 5 (toU8 (((xs.getD 5 0).toNat : Int) - 1))
def ppS (xs : List UInt8) : Int := sTurn (numAt xs 10 2) (numAt xs 4 2) (numAt (ppO xs) 4 2)
def ppV (xs : List UInt8) : List UInt8 := if ppOk xs = true then (ppO xs).take 10 ++ (bytesOf (ppS xs) 2 ++ xs.drop 12) else []
def g_packetPassed : PC := fun args => match args with
  | [.l _ rows] => some (∃ xs, rows = rowsOfBytes xs ∧ xs.length ≤ 1048576, .tup [.own 0, .v (.bool (ppOk (bytesOfRows rows)))], [.sl 5 1 (rowsOfBytes (ppV (bytesOfRows rows)))])
  | _ => none
end Go.Proofs.Ytdeldmagmljacaa
