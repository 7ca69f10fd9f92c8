import Derived.Test.YtmhmhgegdagjkaaVk
import Derived.Test.YtmhmhgegdagjkaaTv
import Derived.Test.YtmhmhgegdagjkaaR7
namespace Go.Proofs.Ytmhmhgegdagjkaa
open Go.RowKit
set_option linter.unusedSimpArgs false
set_option linter.unusedVariables false
def g_packetCopied : PC := fun args => match args with
  | [.agg [.v (.int .i64 f), .v (.int .i64 t), .v (.int .i64 p), .v (.int .i64 h), .v (.int .i64 i), .v (.int .i64 a), .v (.bool m), .v (.bool u), .l _ rows]] => some (∃ xs, rows = rowsOfBytes xs ∧ xs.length ≤ 1048576, .agg [.v (.int .i64 f), .v (.int .i64 t), .v (.int .i64 p), .v (.int .i64 h), .v (.int .i64 i), .v (.int .i64 a), .v (.bool m), .v (.bool u), .own 0], [.tr .whole 5 1 [.cell] rows])
  | _ => none
def pieceAt (x : Pk) (n l : Nat) : Pk := { x with a := x.a + (n : Int), m := x.m || decide ((l : Int) < (x.d.length : Int) - (n : Int)), d := (x.d.drop n).take l }
def pieceN (n l : Nat) : Nat := (n + l - 1) / l
def piecesK (x : Pk) (l k : Nat) : List Pk := (List.range k).map fun j => pieceAt x (l * j) l
theorem pieceN_lt {n l k : Nat} (hl : 1 ≤ l) : l * k < n ↔ k < pieceN n l := by
  unfold pieceN
  rw [Nat.mul_comm]
  rw [Nat.lt_iff_add_one_le, Nat.lt_iff_add_one_le, Nat.le_div_iff_mul_le (by omega), Nat.add_mul]
  omega
theorem pieceN_le {n l : Nat} (hl : 1 ≤ l) : pieceN n l ≤ n := by
  unfold pieceN
  refine Nat.le_of_lt_succ ((Nat.div_lt_iff_lt_mul (by omega)).2 ?_)
  have : n * 1 ≤ n * l := Nat.mul_le_mul_left _ hl
  rw [Nat.succ_mul]
  omega
def cutB (x : Pk) (l : Int) : Bool := x.ok && decide (1 ≤ l ∧ l ≤ 48) && (decide ((x.d.length : Int) ≤ l) || (!x.u && decide (x.a + (((x.d.length - 1) / l.toNat * l.toNat : Nat) : Int) ≤ 255)))
def cutL (x : Pk) (l : Int) : List Pk := if cutB x l = true then (if (x.d.length : Int) ≤ l then [x] else piecesK x l.toNat (pieceN x.d.length l.toNat)) else []
end Go.Proofs.Ytmhmhgegdagjkaa
