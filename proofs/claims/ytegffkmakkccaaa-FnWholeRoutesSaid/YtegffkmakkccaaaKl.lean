import Derived.Test.YtegffkmakkccaaaKk
import Derived.Test.YtegffkmakkccaaaVf
set_option linter.unusedVariables false
set_option linter.unusedSimpArgs false
namespace Go.Proofs.Ytegffkmakkccaaa
open Go.RowKit
set_option linter.unusedSimpArgs false
def hopsV (i : Int) : Int := [64, 64, 1, 2, 3, 4].getD i.toNat 0
def sentV (xs : List UInt8) (p : Int) : PkV :=
  if 0 < pickV xs ((pktV xs p 0).q + 1 + 1) 3 then { pktV xs p 0 with t := 10 + pickV xs (pktV xs p 0).q 6, h := hopsV (pickV xs ((pktV xs p 0).q + 1) 6), a := 0, m := false, q := (pktV xs p 0).q + 1 + 1 + 1 }
  else { pktV xs p 0 with t := 10 + pickV xs (pktV xs p 0).q 6, h := hopsV (pickV xs ((pktV xs p 0).q + 1) 6), q := (pktV xs p 0).q + 1 + 1 + 1 }
theorem sentV_q (xs : List UInt8) (p : Int) (hp : p < 100000000000) : p ≤ (sentV xs p).q ∧ (sentV xs p).q < p + 100 ∧ (sentV xs p).d.length ≤ 60 := by
  have h := pktV_q xs p 0
  unfold sentV
  split <;> (dsimp only; omega)
theorem netQ_bd (xs : List UInt8) (p n : Int) (h : p < 100000000000) : p ≤ netQ xs p n ∧ netQ xs p n ≤ p + 112 := by
  have := (netL_bd xs p h).2.2
  have h1 := oneIf_le n
  rw [netQ]; omega
def kns : List (FuncId × Abs) := [(58, ownAbs g_pick), (114, ownAbs g_packet)]
theorem kns_ok : ∀ p ∈ kns, CallOk Try.prog p.1 p.2 := by
  intro p hp
  simp only [kns, List.mem_cons, List.not_mem_nil, or_false] at hp
  rcases hp with rfl | rfl
  · exact pick_ok.call
  · exact packet_ok.call
end Go.Proofs.Ytegffkmakkccaaa
