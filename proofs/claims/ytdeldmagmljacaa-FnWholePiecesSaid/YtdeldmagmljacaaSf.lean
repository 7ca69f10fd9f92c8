import Derived.Test.YtdeldmagmljacaaSc
namespace Go.Proofs.Ytdeldmagmljacaa
open Go.RowKit
set_option linter.unusedSimpArgs false

def forB (t f k : Int) (n : Nat) (l : Int) : Bool := decide ((((0 ≤ t ∧ t ≤ 255) ∧ (0 ≤ f ∧ f ≤ 254)) ∧ (0 ≤ k ∧ k ≤ 255) ∧ n ≤ 64) ∧ (0 ≤ l ∧ l ≤ 254) ∧ (t = l ∨ (t = 255 ∧ f ≠ l)))
def g_frameFor : PC := fun args => match args with
  | [.agg [.v (.int .i64 t), .v (.int .i64 f), .v (.int .i64 k), .l _ rows], .v (.int .i64 l)] => some (∀ r ∈ rows, r.length = 1, .v (.bool (forB t f k rows.length l)), [])
  | _ => none
/-! the draw -/
def forL (xs : List UInt8) : Int := IntKind.i64.wrap (pickV xs (frameV xs 0 8).p 5 + IntKind.i64.wrap (IntKind.i64.wrap ((pickV xs ((frameV xs 0 8).p + 1) 12).tdiv 11) * 252))
def g_drawFrameFor : PC := fun args => match args with
  | [.l _ rows] => some (∃ xs, rows = rowsOfBytes xs, .tup [.agg [.v (.int .i64 (frameV ((bytesOfRows rows).take 2000) 0 8).to), .v (.int .i64 (frameV ((bytesOfRows rows).take 2000) 0 8).frm), .v (.int .i64 (frameV ((bytesOfRows rows).take 2000) 0 8).kind), .own 0], .v (.int .i64 (forL ((bytesOfRows rows).take 2000)))], [.sl 5 1 (rowsOfBytes (frameV ((bytesOfRows rows).take 2000) 0 8).data)])
  | _ => none
/-- for how many stations a frame is -/
def cntF (t f k : Int) (n : Nat) : Nat → Int
  | 0 => 0
  | m + 1 => cntF t f k n m + if forB t f k n m = true then 1 else 0
end Go.Proofs.Ytdeldmagmljacaa
