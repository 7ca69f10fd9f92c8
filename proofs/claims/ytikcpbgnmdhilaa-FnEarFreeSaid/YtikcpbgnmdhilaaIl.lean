import Derived.Test.YtikcpbgnmdhilaaIk
set_option linter.unusedVariables false
set_option linter.unusedSimpArgs false
namespace Go.Proofs.Ytikcpbgnmdhilaa
open Go.RowKit
set_option linter.unusedSimpArgs false
theorem OwnOk.narrow12 {P : Program} {f : FuncId} {g g' : OC} (C : OwnOk P f g) (h : ∀ args B0 c r B1 bs, g' args B0 = some (c, r, B1, bs) → c → ∃ c0, g args B0 = some (c0, r, B1, bs) ∧ c0) : OwnOk P f g' :=
  ⟨C.there, fun w F Z0 s0 args vs B0 c r B1 bs hH hargs hlive hg hc => by
    obtain ⟨c0, h1, h2⟩ := h args B0 c r B1 bs hg hc
    exact C.does w F Z0 s0 args vs B0 c0 r B1 bs hH hargs hlive h1 h2⟩
def g_earHearD : PC := fun args => match args with
  | [.agg [.v (.int .i64 n), .v (.int .i64 room), .l _ rg, .l _ rf], .v (.int .i64 a), .l _ rd] => some (((∃ xs, rg = rowsOfBytes xs ∧ xs.length ≤ 140737488355328) ∧ ∃ l, rf = erRows l ∧ l.length ≤ 1048577) ∧ ∃ ds, rd = rowsOfBytes ds ∧ ds.length ≤ 1048576, .agg [.v (.int .i64 (hrV ⟨n, room, bytesOfRows rg, ersOf rf⟩ a (bytesOfRows rd)).n), .v (.int .i64 (hrV ⟨n, room, bytesOfRows rg, ersOf rf⟩ a (bytesOfRows rd)).room), .l 1 (rowsOfBytes (hrV ⟨n, room, bytesOfRows rg, ersOf rf⟩ a (bytesOfRows rd)).g), .l 2 (erRows (hrV ⟨n, room, bytesOfRows rg, ersOf rf⟩ a (bytesOfRows rd)).fr)], [])
  | _ => none
def g_earReadD : PC := fun args => match args with
  | [.agg [.v (.int .i64 n), .v (.int .i64 room), .l _ rg, .l _ rf], .v (.int .i64 m)] => some ((∃ xs, rg = rowsOfBytes xs ∧ xs.length ≤ 140737488355328) ∧ ∃ l, rf = erRows l ∧ l.length ≤ 1048577, .tup [.agg [.v (.int .i64 (rdV12 ⟨n, room, bytesOfRows rg, ersOf rf⟩ m).n), .v (.int .i64 (rdV12 ⟨n, room, bytesOfRows rg, ersOf rf⟩ m).room), .l 1 (rowsOfBytes (rdV12 ⟨n, room, bytesOfRows rg, ersOf rf⟩ m).g), .l 2 (erRows (rdV12 ⟨n, room, bytesOfRows rg, ersOf rf⟩ m).fr)], .l 1 (rowsOfBytes (rdB12 ⟨n, room, bytesOfRows rg, ersOf rf⟩ m))], [])
  | _ => none
def g_earRangesD : PC := fun args => match args with
  | [.agg [.v (.int .i64 n), .v (.int .i64 room), .l _ rg, .l _ rf]] => some ((∃ xs, rg = rowsOfBytes xs ∧ xs.length ≤ 140737488355328) ∧ ∃ l, rf = erRows l ∧ l.length ≤ 1048577, .l 2 (rgRows (rnV ⟨n, room, bytesOfRows rg, ersOf rf⟩)), [])
  | _ => none
theorem specEarHearD_ok : OwnOk Try.prog 20 (ocOf g_earHearD) := by
  refine specEarHear_ok.toOwn.toData.narrow12 fun args B0 c r B1 bs hg hc => ?_
  unfold ocOf g_earHearD at hg
  split at hg
  · split at hg
    · rename_i c' r' bs' hg'
      cases hg
      split at hg'
      · cases hg'
        exact ⟨_, rfl, hc⟩
      · cases hg'
    · cases hg
  · cases hg
theorem specEarReadD_ok : OwnOk Try.prog 23 (ocOf g_earReadD) := by
  refine specEarRead_ok.toOwn.toData.narrow12 fun args B0 c r B1 bs hg hc => ?_
  unfold ocOf g_earReadD at hg
  split at hg
  · split at hg
    · rename_i c' r' bs' hg'
      cases hg
      split at hg'
      · cases hg'
        exact ⟨_, rfl, hc⟩
      · cases hg'
    · cases hg
  · cases hg
theorem specEarRangesD_ok : OwnOk Try.prog 27 (ocOf g_earRangesD) := by
  refine specEarRanges_ok.toOwn.toData.narrow12 fun args B0 c r B1 bs hg hc => ?_
  unfold ocOf g_earRangesD at hg
  split at hg
  · split at hg
    · rename_i c' r' bs' hg'
      cases hg
      split at hg'
      · cases hg'
        exact ⟨_, rfl, hc⟩
      · cases hg'
    · cases hg
  · cases hg
end Go.Proofs.Ytikcpbgnmdhilaa
