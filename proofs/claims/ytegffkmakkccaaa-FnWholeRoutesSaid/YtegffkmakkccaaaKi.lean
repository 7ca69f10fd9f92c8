import Derived.Test.YtegffkmakkccaaaKh
set_option linter.unusedVariables false
set_option linter.unusedSimpArgs false
namespace Go.Proofs.Ytegffkmakkccaaa
open Go.RowKit
set_option linter.unusedSimpArgs false
theorem implTravelD_ok : OwnOk Try.prog 36 (ocOf g_travelD) := by
  refine implTravel_ok.toOwn.toData.narrow fun args B0 c r B1 bs hg hc => ?_
  unfold ocOf g_travelD at hg
  split at hg
  · split at hg
    · rename_i c' r' bs' hg'
      cases hg
      split at hg'
      · cases hg'
        exact ⟨_, rfl, hc⟩
      · cases hg'
    · cases hg
  · cases hg
end Go.Proofs.Ytegffkmakkccaaa
