import Derived.Test.YtdeldmagmljacaaTb
import Derived.Test.YtdeldmagmljacaaSm
namespace Go.Proofs.Ytdeldmagmljacaa
open Go.RowKit
set_option linter.unusedSimpArgs false

/-! a query is drawn -/
structure QueryV where
  k : Int
  l : Int
  a : Int
  w : Int
  p : Int
def queryV (xs : List UInt8) (p n : Int) : QueryV :=
  if (decide (0 < n) && pickV xs (p + 1 + 1 + 1 + 1) n == n - 1) = true then
    if pickV xs (p + 1 + 1 + 1 + 1 + oneIf n) 3 = 0 then ⟨pickV xs (p + 1 + 1 + 1 + 1 + oneIf n + 1) 5, pickV xs (p + 1) 4, pickV xs (p + 1 + 1) 6, pickV xs (p + 1 + 1 + 1) 6, p + 1 + 1 + 1 + 1 + oneIf n + 1 + 1⟩
    else if pickV xs (p + 1 + 1 + 1 + 1 + oneIf n) 3 = 1 then ⟨IntKind.i64.wrap (1 + pickV xs p 2), 255, pickV xs (p + 1 + 1) 6, pickV xs (p + 1 + 1 + 1) 6, p + 1 + 1 + 1 + 1 + oneIf n + 1⟩
    else ⟨IntKind.i64.wrap (1 + pickV xs p 2), pickV xs (p + 1) 4, IntKind.i64.wrap (65536 - IntKind.i64.wrap (pickV xs (p + 1 + 1 + 1 + 1 + oneIf n + 1) 2 * 70000)), pickV xs (p + 1 + 1 + 1) 6, p + 1 + 1 + 1 + 1 + oneIf n + 1 + 1⟩
  else ⟨IntKind.i64.wrap (1 + pickV xs p 2), pickV xs (p + 1) 4, pickV xs (p + 1 + 1) 6, pickV xs (p + 1 + 1 + 1) 6, p + 1 + 1 + 1 + 1 + oneIf n⟩
def g_query : OC := fun args B0 => match args, B0 with
  | [.ptr r o, .v (.int .i64 n)], [.var T [.l 1 rows, .v (.int .i64 p)]] => some (T = 84 ∧ r = 0 ∧ o = 0 ∧ (∃ xs, rows = rowsOfBytes xs ∧ xs.length ≤ 2000) ∧ 0 ≤ p ∧ p < 100000000000 ∧ 0 ≤ n ∧ n ≤ 1000000,
      .agg [.v (.int .i64 (queryV (bytesOfRows rows) p n).k), .v (.int .i64 (queryV (bytesOfRows rows) p n).l), .v (.int .i64 (queryV (bytesOfRows rows) p n).a), .v (.int .i64 (queryV (bytesOfRows rows) p n).w)], [.var T [.l 1 rows, .v (.int .i64 (queryV (bytesOfRows rows) p n).p)]], [])
  | _, _ => none
def g_draw2q : PC := fun args => match args with
  | [.l _ rows] => some (∃ xs, rows = rowsOfBytes xs, .agg [.v (.int .i64 (queryV ((bytesOfRows rows).take 2000) 0 2).k), .v (.int .i64 (queryV ((bytesOfRows rows).take 2000) 0 2).l), .v (.int .i64 (queryV ((bytesOfRows rows).take 2000) 0 2).a), .v (.int .i64 (queryV ((bytesOfRows rows).take 2000) 0 2).w)], [])
  | _ => none
def g_draw6q : PC := fun args => match args with
  | [.l _ rows] => some (∃ xs, rows = rowsOfBytes xs, .agg [.v (.int .i64 (queryV ((bytesOfRows rows).take 2000) 0 6).k), .v (.int .i64 (queryV ((bytesOfRows rows).take 2000) 0 6).l), .v (.int .i64 (queryV ((bytesOfRows rows).take 2000) 0 6).a), .v (.int .i64 (queryV ((bytesOfRows rows).take 2000) 0 6).w)], [])
  | _ => none
def g_drawNT : PC := fun args => match args with
  | [.l _ rows] => some (∃ xs, rows = rowsOfBytes xs, .tup [.v (.int .i64 (IntKind.i64.wrap (pickV ((bytesOfRows rows).take 2000) 0 4 + IntKind.i64.wrap (IntKind.i64.wrap ((pickV ((bytesOfRows rows).take 2000) 1 15).tdiv 14) * 255)))), .v (.int .i64 (pickV ((bytesOfRows rows).take 2000) 2 6)), .agg [.v (.int .i64 (queryV ((bytesOfRows rows).take 2000) 3 9).k), .v (.int .i64 (queryV ((bytesOfRows rows).take 2000) 3 9).l), .v (.int .i64 (queryV ((bytesOfRows rows).take 2000) 3 9).a), .v (.int .i64 (queryV ((bytesOfRows rows).take 2000) 3 9).w)]], [])
  | _ => none
/-! the draw of bytes of a query, whole or not -/
def qqB (xs : List UInt8) : List UInt8 := qbV (queryV xs 0 0).k (queryV xs 0 0).l (queryV xs 0 0).a (queryV xs 0 0).w
def g_drawQueryFrom : OC := fun args B0 => match args, B0 with
  | [.l _ rows], [] => if pickV ((bytesOfRows rows).take 2000) 4 4 = 1 then
        some (∃ xs, rows = rowsOfBytes xs, .sub 0 0 (pickV ((bytesOfRows rows).take 2000) 5 6).toNat, [], [.sl 5 1 (rowsOfBytes (qqB ((bytesOfRows rows).take 2000)))])
      else some (∃ xs, rows = rowsOfBytes xs, .own 0, [], [.sl 5 1 (rowsOfBytes (
        if pickV ((bytesOfRows rows).take 2000) 4 4 = 0 then (qqB ((bytesOfRows rows).take 2000)).set (pickV ((bytesOfRows rows).take 2000) 5 6).toNat (toU8 (pickV ((bytesOfRows rows).take 2000) 6 256))
        else qqB ((bytesOfRows rows).take 2000)))])
  | _, _ => none
end Go.Proofs.Ytdeldmagmljacaa
