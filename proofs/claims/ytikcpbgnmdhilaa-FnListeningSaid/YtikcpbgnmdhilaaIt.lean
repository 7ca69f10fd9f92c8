import Derived.Test.YtikcpbgnmdhilaaIl
import Derived.Test.YtikcpbgnmdhilaaIv
set_option linter.unusedVariables false
set_option linter.unusedSimpArgs false
namespace Go.Proofs.Ytikcpbgnmdhilaa
open Go.RowKit
set_option linter.unusedSimpArgs false
theorem implEarHearD_ok : OwnOk Try.prog 18 (ocOf g_earHearD) := by
  refine implEarHear_ok.toOwn.toData.narrow12 fun args B0 c r B1 bs hg hc => ?_
  unfold ocOf g_earHearD at hg
  split at hg
  · split at hg
    · rename_i c' r' bs' hg'
      cases hg
      split at hg'
      · cases hg'
        exact ⟨_, rfl, hc⟩
      · cases hg'
    · cases hg
  · cases hg
theorem implEarReadD_ok : OwnOk Try.prog 16 (ocOf g_earReadD) := by
  refine implEarRead_ok.toOwn.toData.narrow12 fun args B0 c r B1 bs hg hc => ?_
  unfold ocOf g_earReadD at hg
  split at hg
  · split at hg
    · rename_i c' r' bs' hg'
      cases hg
      split at hg'
      · cases hg'
        exact ⟨_, rfl, hc⟩
      · cases hg'
    · cases hg
  · cases hg
theorem implEarRangesD_ok : OwnOk Try.prog 25 (ocOf g_earRangesD) := by
  refine implEarRanges_ok.toOwn.toData.narrow12 fun args B0 c r B1 bs hg hc => ?_
  unfold ocOf g_earRangesD at hg
  split at hg
  · split at hg
    · rename_i c' r' bs' hg'
      cases hg
      split at hg'
      · cases hg'
        exact ⟨_, rfl, hc⟩
      · cases hg'
    · cases hg
  · cases hg
end Go.Proofs.Ytikcpbgnmdhilaa
