import Derived.Test.YtegffkmakkccaaaKd
import Derived.Test.YtegffkmakkccaaaHa
import Derived.Test.YtegffkmakkccaaaKe
set_option linter.unusedVariables false
set_option linter.unusedSimpArgs false
namespace Go.Proofs.Ytegffkmakkccaaa
open Go.RowKit
set_option linter.unusedSimpArgs false
theorem nj_skip (xs : List UInt8) (M k : Int) (R : List RE) (u j : Int) (h : j = k) : njStep xs M k (R, u) j = (R, u) := if_pos h
theorem nj_none (xs : List UInt8) (M k : Int) (R : List RE) (u j : Int) (h : ¬ j = k) (h2 : ¬ 0 < pickV xs u 12) : njStep xs M k (R, u) j = (R, u + 1) := by rw [njStep, if_neg h, if_neg h2]
theorem nj_put (xs : List UInt8) (M k : Int) (R : List RE) (u j : Int) (h : ¬ j = k) (h2 : 0 < pickV xs u 12) {v q : Int} (hv : viaV xs M k j u = v) (hq : viaP xs u = q) : njStep xs M k (R, u) j = (putV R ⟨10 + j, 16, v, 3 + pickV xs q 4 * 4⟩, q + 1) := by
  rw [njStep, if_neg h, if_pos h2]
  dsimp only
  rw [hv, hq]
def knl : List (FuncId × Abs) := [(58, ownAbs g_pick), (115, ownAbs g_odd), (91, pureAbs g_routePut)]
theorem knl_ok : ∀ p ∈ knl, CallOk Try.prog p.1 p.2 := by
  intro p hp
  simp only [knl, List.mem_cons, List.not_mem_nil, or_false] at hp
  rcases hp with rfl | rfl | rfl
  · exact pick_ok.call
  · exact odd_ok.call
  · exact specRoutePut_ok.call
end Go.Proofs.Ytegffkmakkccaaa
