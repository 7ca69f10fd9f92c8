import Derived.Test.YtegffkmakkccaaaHs
set_option linter.unusedVariables false
set_option linter.unusedSimpArgs false
namespace Go.Proofs.Ytegffkmakkccaaa
open Go.RowKit
set_option linter.unusedSimpArgs false
theorem plLs_mid (xs : List UInt8) (n : Int) : ptMid (plLs xs 0 n) ∧ (plLs xs 0 n).length ≤ 9 := by
  have hcb := dcC_bd xs 0 (by omega)
  have hg := plK_good xs hcb.2 ((lnV xs 0).q + 1 + 1) (plN xs 0)
  have hq := plK_q xs (dcC xs 0) ((lnV xs 0).q + 1 + 1) (plN xs 0)
  have hlq := lnV_q xs 0 (by omega)
  have hn : plN xs 0 ≤ 6 := by
    have := pickV_lt xs ((lnV xs 0).q + 1) 7 (by omega)
    have := pickV_nonneg xs ((lnV xs 0).q + 1) 7 (by omega)
    rw [plN]; omega
  have heb := oneIf_le n
  have hm : ptMid (plL (plS xs 0)) ∧ (plL (plS xs 0)).length ≤ 4 := plGood.mid hg
  have hsq : (plS xs 0).q ≤ 700 := by
    have : (plS xs 0).q = (plK xs (dcC xs 0) ((lnV xs 0).q + 1 + 1) (plN xs 0)).q := rfl
    omega
  have hs0 : 0 ≤ (plS xs 0).q := by
    have : (plS xs 0).q = (plK xs (dcC xs 0) ((lnV xs 0).q + 1 + 1) (plN xs 0)).q := rfl
    omega
  have hd := dpV_bd xs ((plS xs 0).q + oneIf n) 1 (by omega)
  rw [plLs]
  split
  · have hl : (plL (plS xs 0) ++ plL (plS xs 0) ++ [(⟨(plD xs 0 n).ps, (plD xs 0 n).u⟩ : Pt)]).length ≤ 9 := by simp only [List.length_append, List.length_singleton]; omega
    refine ⟨⟨by omega, fun x hx => ?_⟩, hl⟩
    rcases List.mem_append.1 hx with hx | hx
    · rcases List.mem_append.1 hx with hx | hx
      · exact hm.1.2 x hx
      · exact hm.1.2 x hx
    · rw [List.mem_singleton.1 hx]
      show pMid (dpV xs ((plS xs 0).q + oneIf n) 1).ps
      exact ⟨by omega, fun y hy => by have := hd.2.2 y hy; omega⟩
  · exact ⟨hm.1, by omega⟩
end Go.Proofs.Ytegffkmakkccaaa
