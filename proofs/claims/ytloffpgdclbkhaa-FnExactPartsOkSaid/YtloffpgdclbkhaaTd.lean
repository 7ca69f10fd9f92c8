import Derived.Test.YtloffpgdclbkhaaTb
import Derived.Test.YtloffpgdclbkhaaSm
namespace Go.Proofs.Ytloffpgdclbkhaa
open Go.RowKit
set_option linter.unusedSimpArgs false

/-! a query is drawn -/
structure QueryV where
  k : Int
  l : Int
  a : Int
  w : Int
  p : Int
def queryV (xs : List UInt8) (p n : Int) : QueryV :=
  if (decide (0 < n) && pickV xs (p + 1 + 1 + 1 + 1) n == n - 1) = true then
    if pickV xs (p + 1 + 1 + 1 + 1 + oneIf n) 3 = 0 then ⟨pickV xs (p + 1 + 1 + 1 + 1 + oneIf n + 1) 5, pickV xs (p + 1) 4, pickV xs (p + 1 + 1) 6, pickV xs (p + 1 + 1 + 1) 6, p + 1 + 1 + 1 + 1 + oneIf n + 1 + 1⟩
    else if pickV xs (p + 1 + 1 + 1 + 1 + oneIf n) 3 = 1 then ⟨IntKind.i64.wrap (1 + pickV xs p 2), 255, pickV xs (p + 1 + 1) 6, pickV xs (p + 1 + 1 + 1) 6, p + 1 + 1 + 1 + 1 + oneIf n + 1⟩
    else ⟨IntKind.i64.wrap (1 + pickV xs p 2), pickV xs (p + 1) 4, IntKind.i64.wrap (65536 - IntKind.i64.wrap (pickV xs (p + 1 + 1 + 1 + 1 + oneIf n + 1) 2 * 70000)), pickV xs (p + 1 + 1 + 1) 6, p + 1 + 1 + 1 + 1 + oneIf n + 1 + 1⟩
  else ⟨IntKind.i64.wrap (1 + pickV xs p 2), pickV xs (p + 1) 4, pickV xs (p + 1 + 1) 6, pickV xs (p + 1 + 1 + 1) 6, p + 1 + 1 + 1 + 1 + oneIf n⟩
theorem queryV_p (xs : List UInt8) (p n : Int) : p ≤ (queryV xs p n).p ∧ (queryV xs p n).p < p + 10 := by
  have := oneIf_le n
  unfold queryV
  split
  · split
    · dsimp only; omega
    · split <;> (dsimp only; omega)
  · dsimp only; omega
def g_draw2q : PC := fun args => match args with
  | [.l _ rows] => some (∃ xs, rows = rowsOfBytes xs, .agg [.v (.int .i64 (queryV ((bytesOfRows rows).take 2000) 0 2).k), .v (.int .i64 (queryV ((bytesOfRows rows).take 2000) 0 2).l), .v (.int .i64 (queryV ((bytesOfRows rows).take 2000) 0 2).a), .v (.int .i64 (queryV ((bytesOfRows rows).take 2000) 0 2).w)], [])
  | _ => none
def g_draw6q : PC := fun args => match args with
  | [.l _ rows] => some (∃ xs, rows = rowsOfBytes xs, .agg [.v (.int .i64 (queryV ((bytesOfRows rows).take 2000) 0 6).k), .v (.int .i64 (queryV ((bytesOfRows rows).take 2000) 0 6).l), .v (.int .i64 (queryV ((bytesOfRows rows).take 2000) 0 6).a), .v (.int .i64 (queryV ((bytesOfRows rows).take 2000) 0 6).w)], [])
  | _ => none
def g_drawNT : PC := fun args => match args with
  | [.l _ rows] => some (∃ xs, rows = rowsOfBytes xs, .tup [.v (.int .i64 (IntKind.i64.wrap (pickV ((bytesOfRows rows).take 2000) 0 4 + IntKind.i64.wrap (IntKind.i64.wrap ((pickV ((bytesOfRows rows).take 2000) 1 15).tdiv 14) * 255)))), .v (.int .i64 (pickV ((bytesOfRows rows).take 2000) 2 6)), .agg [.v (.int .i64 (queryV ((bytesOfRows rows).take 2000) 3 9).k), .v (.int .i64 (queryV ((bytesOfRows rows).take 2000) 3 9).l), .v (.int .i64 (queryV ((bytesOfRows rows).take 2000) 3 9).a), .v (.int .i64 (queryV ((bytesOfRows rows).take 2000) 3 9).w)]], [])
  | _ => none
/-! the draw of bytes of a query, whole or not -/
def qqB (xs : List UInt8) : List UInt8 := qbV (queryV xs 0 0).k (queryV xs 0 0).l (queryV xs 0 0).a (queryV xs 0 0).w
theorem queryV_zero (xs : List UInt8) (p : Int) (h : p < 100000000000) : qB (queryV xs p 0).k (queryV xs p 0).l (queryV xs p 0).a (queryV xs p 0).w = true := by
  have a1 := pickV_nonneg xs p 2 (by omega)
  have a2 := pickV_lt xs p 2 (by omega)
  have a3 := pickV_nonneg xs (p + 1) 4 (by omega)
  have a4 := pickV_lt xs (p + 1) 4 (by omega)
  have a5 := pickV_nonneg xs (p + 1 + 1) 6 (by omega)
  have a6 := pickV_lt xs (p + 1 + 1) 6 (by omega)
  have a7 := pickV_nonneg xs (p + 1 + 1 + 1) 6 (by omega)
  have a8 := pickV_lt xs (p + 1 + 1 + 1) 6 (by omega)
  have w1 : IntKind.i64.wrap (1 + pickV xs p 2) = 1 + pickV xs p 2 := wrap_id (by omega) (by omega)
  unfold queryV
  rw [if_neg (by simp)]
  simp only [qB, decide_eq_true_eq, w1]
  omega
theorem two_len {v : Int} (h : 0 ≤ v ∧ v ≤ 65535) : (bytesOf v 2).length = 2 := by
  obtain ⟨x, y, e, _⟩ := bytesOf_two v h.1 h.2
  rw [e]; rfl
theorem qbV_six {k l a w : Int} (h : qB k l a w = true) : (qbV k l a w).length = 6 := by
  have h' := h
  simp only [qB, decide_eq_true_eq] at h'
  rw [qbV, if_pos h, List.length_append, List.length_append, two_len h'.2.2.1, two_len h'.2.2.2]
  rfl
def g_drawQueryFrom : OC := fun args B0 => match args, B0 with
  | [.l _ rows], [] => if pickV ((bytesOfRows rows).take 2000) 4 4 = 1 then
        some (∃ xs, rows = rowsOfBytes xs, .sub 0 0 (pickV ((bytesOfRows rows).take 2000) 5 6).toNat, [], [.sl 5 1 (rowsOfBytes (qqB ((bytesOfRows rows).take 2000)))])
      else some (∃ xs, rows = rowsOfBytes xs, .own 0, [], [.sl 5 1 (rowsOfBytes (
        if pickV ((bytesOfRows rows).take 2000) 4 4 = 0 then (qqB ((bytesOfRows rows).take 2000)).set (pickV ((bytesOfRows rows).take 2000) 5 6).toNat (toU8 (pickV ((bytesOfRows rows).take 2000) 6 256))
        else qqB ((bytesOfRows rows).take 2000)))])
  | _, _ => none
end Go.Proofs.Ytloffpgdclbkhaa
