import Derived.Test.YtmhmhgegdagjkaaKh
set_option linter.unusedVariables false
set_option linter.unusedSimpArgs false
namespace Go.Proofs.Ytmhmhgegdagjkaa
open Go.RowKit
set_option linter.unusedSimpArgs false
theorem specTravel_ok : OwnOk Try.prog 53 (ocOf g_travelD) := by
  refine specTravelW_ok.recast fun args B0 c r' B1 bs h => ?_
  unfold ocOf g_travelD at h
  split at h
  · split at h
    · rename_i c' r2 bs' hg
      cases h
      split at hg
      · cases hg
        exact ⟨_, rfl, .cons (.l _ _ _ (pRows_w _)) (.cons (.l _ _ _ (pRows_w _)) (.cons (.refl _) .nil)), fun k hk => by simp [AV.ids, AV.ids.idsL] at hk⟩
      · cases hg
    · cases h
  · cases h
theorem implTravelD_ok : OwnOk Try.prog 9 (ocOf g_travelD) := by
  refine implTravel_ok.toOwn.toData.narrow fun args B0 c r B1 bs hg hc => ?_
  unfold ocOf g_travelD at hg
  split at hg
  · split at hg
    · rename_i c' r' bs' hg'
      cases hg
      split at hg'
      · cases hg'
        exact ⟨_, rfl, hc⟩
      · cases hg'
    · cases hg
  · cases hg
def rmB (net : List St) (n to : Int) : Bool := inNet net n && inZ to 0 65535
end Go.Proofs.Ytmhmhgegdagjkaa
