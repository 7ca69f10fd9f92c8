import Derived.Test.YtdeldmagmljacaaHb
import Derived.Test.YtdeldmagmljacaaXe
namespace Go.Proofs.Ytdeldmagmljacaa
open Go.RowKit
set_option linter.unusedSimpArgs false
set_option linter.unusedVariables false

/-! a part is drawn -/
/-- the pieces that are taken, of the first k -/
def selP (xs : List UInt8) (C : List Pk) (q : Int) : Nat → List Pk
  | 0 => []
  | k + 1 => if 0 < pickV xs (q + (k : Int)) 3 ∨ ((selP xs C q k).length = 0 ∧ k + 1 = C.length) then selP xs C q k ++ [C.getD k pk0] else selP xs C q k
/-- the pieces of a packet that is drawn -/
def dcC (xs : List UInt8) (p : Int) : List Pk := cutL (pvK (lnV xs p)) (1 + pickV xs (lnV xs p).q 6)
theorem cut_pos {x : Pk} {l : Int} (h : cutB x l = true) : 0 < (cutL x l).length := by
  obtain ⟨-, h2, ⟨h3, e⟩ | ⟨h3, h4, h5, e⟩⟩ := cut_cases h
  · rw [e]; simp
  · rw [e, piecesK_len]
    have := (pieceN_lt (n := x.d.length) (l := l.toNat) (k := 0) (by omega)).1 (by omega)
    exact this
structure PtW where
  ps : List Pk
  u : Int
  q : Int
def dpS (xs : List UInt8) (p : Int) : List Pk := selP xs (dcC xs p) ((lnV xs p).q + 1 + 1) (dcC xs p).length
def dpQ (xs : List UInt8) (p : Int) : Int := (lnV xs p).q + 1 + 1 + ((dcC xs p).length : Int)
def dpU (xs : List UInt8) (p : Int) : Int := pickV xs ((lnV xs p).q + 1) 40
def dpE (xs : List UInt8) (S : List Pk) (u x : Int) : PtW :=
  if pickV xs x 4 = 0 then ⟨{ S.getD 0 pk0 with a := pickV xs (x + 1) 9 } :: S.drop 1, u, x + 1 + 1⟩
  else if pickV xs x 4 = 1 then ⟨{ S.getD 0 pk0 with m := false } :: S.drop 1, u, x + 1⟩
  else if pickV xs x 4 = 2 then ⟨S ++ [S.getD 0 pk0], u, x + 1⟩
  else ⟨[], u, x + 1⟩
def dpV (xs : List UInt8) (p n : Int) : PtW :=
  if (decide (0 < n) && pickV xs (dpQ xs p) n == n - 1) = true then dpE xs (dpS xs p) (dpU xs p) (dpQ xs p + oneIf n) else ⟨dpS xs p, dpU xs p, dpQ xs p + oneIf n⟩
def g_part : OC := fun args B0 => match args, B0 with
  | [.ptr r o, .v (.int .i64 n)], [.var T [.l 1 rows, .v (.int .i64 p)]] => some (T = 84 ∧ r = 0 ∧ o = 0 ∧ (∃ xs, rows = rowsOfBytes xs ∧ xs.length ≤ 2000) ∧ 0 ≤ p ∧ p < 1000000000 ∧ 0 ≤ n ∧ n ≤ 1000000, .agg [.l 9 (pRows (dpV (bytesOfRows rows) p n).ps), .v (.int .i64 (dpV (bytesOfRows rows) p n).u)], [.var T [.l 1 rows, .v (.int .i64 (dpV (bytesOfRows rows) p n).q)]], [])
  | _, _ => none
def hpt : List (FuncId × Abs) := [(41, ownAbs g_long), (40, ownAbs g_pick), (69, ownAbs g_odd), (13, ownAbs (ocOf g_sPacketCut))]
end Go.Proofs.Ytdeldmagmljacaa
