import Derived.Test.YtdeldmagmljacaaHg
import Derived.Test.YtdeldmagmljacaaHq
import Derived.Test.YtdeldmagmljacaaXi
namespace Go.Proofs.Ytdeldmagmljacaa
open Go.RowKit
set_option linter.unusedSimpArgs false
set_option linter.unusedVariables false

/-! the law of pieces in any order -/
def g_hearPD : PC := fun args => match args with
  | [.l _ rows', .agg [.v (.int .i64 f), .v (.int .i64 t), .v (.int .i64 p), .v (.int .i64 h), .v (.int .i64 i), .v (.int .i64 a), .v (.bool m), .v (.bool u), .l _ rows], .v (.int .i64 n)] => some ((∃ l, rows' = ptRows l ∧ ptMid l) ∧ (∃ xs, rows = rowsOfBytes xs ∧ xs.length ≤ 1048576) ∧ phS (ptsOf rows') ⟨f, t, p, h, i, a, m, u, bytesOfRows rows⟩ n = false,
      .tup [.l 2 (ptRows (phF (ptsOf rows') ⟨f, t, p, h, i, a, m, u, bytesOfRows rows⟩ n)), .agg [.v (.int .i64 (phP (ptsOf rows') ⟨f, t, p, h, i, a, m, u, bytesOfRows rows⟩ n).f), .v (.int .i64 (phP (ptsOf rows') ⟨f, t, p, h, i, a, m, u, bytesOfRows rows⟩ n).t), .v (.int .i64 (phP (ptsOf rows') ⟨f, t, p, h, i, a, m, u, bytesOfRows rows⟩ n).p), .v (.int .i64 (phP (ptsOf rows') ⟨f, t, p, h, i, a, m, u, bytesOfRows rows⟩ n).h), .v (.int .i64 (phP (ptsOf rows') ⟨f, t, p, h, i, a, m, u, bytesOfRows rows⟩ n).i), .v (.int .i64 (phP (ptsOf rows') ⟨f, t, p, h, i, a, m, u, bytesOfRows rows⟩ n).a), .v (.bool (phP (ptsOf rows') ⟨f, t, p, h, i, a, m, u, bytesOfRows rows⟩ n).m), .v (.bool (phP (ptsOf rows') ⟨f, t, p, h, i, a, m, u, bytesOfRows rows⟩ n).u), .l 1 (rowsOfBytes (phP (ptsOf rows') ⟨f, t, p, h, i, a, m, u, bytesOfRows rows⟩ n).d)], .v (.bool (phB (ptsOf rows') ⟨f, t, p, h, i, a, m, u, bytesOfRows rows⟩ n))], [])
  | _ => none
theorem implPartsHearD_ok : OwnOk Try.prog 33 (ocOf g_hearPD) := by
  refine implPartsHear_ok.toOwn.toData.narrow fun args B0 c r B1 bs hg hc => ?_
  unfold ocOf g_hearPD at hg
  split at hg
  · split at hg
    · rename_i c' r' bs' hg'
      cases hg
      split at hg'
      · rename_i sz' rows' f t p h i a m u sz rows n
        cases hg'
        obtain ⟨h1, h2, h3⟩ := hc
        refine ⟨(∃ l, rows' = ptRows l ∧ ptMid l) ∧ (∃ xs, rows = rowsOfBytes xs ∧ xs.length ≤ 1048576), ?_, h1, h2⟩
        simp only [ocOf, dataOf, g_partsHear, h3]
        rfl
      · cases hg'
    · cases hg
  · cases hg
/-- what is kept after so many pieces -/
def keptL (C : List Pk) (w : List Nat) (k : Nat) : List Pt := if k = 0 ∨ k = w.length then [] else [⟨sel C fun j => (w.take k).contains j, 20⟩]
theorem cut_same (x : Pk) (l : Int) : ∀ y ∈ cutL x l, same4 y x = true := by
  intro y hy
  rw [cutL] at hy
  split at hy
  · split at hy
    · rw [List.mem_singleton.1 hy]; simp [same4]
    · obtain ⟨j, _, rfl⟩ := List.mem_map.1 hy
      simp [same4, pieceAt]
  · cases hy
def lsh : List (FuncId × Abs) := [(15, pureAbs g_alive), (17, pureAbs g_sameBytes), (14, pureAbs g_samePackets), (12, ownAbs (ocOf g_sPacketCut)), (13, ownAbs (ocOf g_sPacketCut)), (33, frzAbs g_hearPD), (36, ownAbs (ocOf g_drawSh))]
def shCell (k : Nat) (rows : List (List D)) : AV := if k = 0 then .own 1 else .l 2 rows
def shBlk (k : Nat) : HP := if k = 0 then [(1, .sl 36 2 [])] else []
end Go.Proofs.Ytdeldmagmljacaa
