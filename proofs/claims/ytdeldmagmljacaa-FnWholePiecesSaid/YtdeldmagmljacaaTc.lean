import Derived.Test.YtdeldmagmljacaaTb
import Derived.Test.YtdeldmagmljacaaSm
import Derived.Test.YtdeldmagmljacaaLw
set_option linter.unusedVariables false
set_option linter.unusedSimpArgs false
namespace Go.Proofs.Ytdeldmagmljacaa
open Go.RowKit
set_option linter.unusedSimpArgs false

/-! the helpers of the exact laws, over bytes -/
def g_toByteS : PC := fun args => match args with
  | [.l _ rows] => some (∃ xs, rows = rowsOfBytes xs ∧ xs.length ≤ 140737488355328, .own 0, [.sl 5 1 (rowsOfBytes (bytesOfRows rows))])
  | _ => none
def g_eqByteS : PC := fun args => match args with
  | [.l _ rows, .l _ rows'] => some ((∃ xs, rows = rowsOfBytes xs ∧ xs.length ≤ 140737488355328) ∧ (∃ ys, rows' = rowsOfBytes ys ∧ ys.length ≤ 140737488355328), .v (.bool (bytesOfRows rows == bytesOfRows rows')), [])
  | _ => none
/-- who looks for the marks that are there finds them -/
def g_heldByteS : PC := fun args => match args with
  | [.l _ rows, .v (.int .i64 k)] => some (0 ≤ k ∧ k ≤ 1099511627776 ∧ rows.length ≤ 1099511627776 ∧ rows = rowsOfBytes (marks k.toNat rows.length), .v (.int .i64 (k + (rows.length : Int))), [])
  | _ => none
/-- who marks bytes of his own -/
def g_markByteS : OC := fun args B0 => match args, B0 with
  | [.own r, .v (.int .i64 k)], [.sl T sz rows] => some (r = 0 ∧ T = 5 ∧ sz = 1 ∧ (∃ xs, rows = rowsOfBytes xs) ∧ rows.length ≤ 1099511627776 ∧ 0 ≤ k ∧ k ≤ 1099511627776,
      .v (.int .i64 (k + (rows.length : Int))), [.sl T sz (rowsOfBytes (marks k.toNat rows.length))], [])
  | _, _ => none
/-! the exact laws of queries -/
def g_q1 : PC := fun args => match args with
  | [.agg [.v (.int .i64 k), .v (.int .i64 l), .v (.int .i64 a), .v (.int .i64 w)]] => some (True, .v (.bool true), [])
  | _ => none
def g_q4 : PC := fun args => match args with
  | [.v (.int .i64 link), .v (.int .i64 addr), .agg [.v (.int .i64 k), .v (.int .i64 l), .v (.int .i64 a), .v (.int .i64 w)]] => some (True, .v (.bool true), [])
  | _ => none
theorem arel_nil {w : World} {Z : Nat → Prop} {L : Nat → Blk} {s : Nat → Value} : ARel w Z L s [] [] := ⟨rfl, fun i x y hx => by simp at hx⟩
theorem arel_cons {w : World} {Z : Nat → Prop} {L : Nat → Blk} {s : Nat → Value} {a : AV} {x : Value} {xa : List AV} {xs : List Value} (h : AVR w Z L s a x) (k : ARel w Z L s xa xs) : ARel w Z L s (a :: xa) (x :: xs) :=
  ⟨by simp [k.1], fun i y z hy hz => by
    cases i with
    | zero => simp at hy hz; subst hy; subst hz; exact h
    | succ i => exact k.2 i y z (by simpa using hy) (by simpa using hz)⟩
end Go.Proofs.Ytdeldmagmljacaa
