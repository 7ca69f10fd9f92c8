import Derived.Test.YtmhmhgegdagjkaaQb
import Derived.Test.YtmhmhgegdagjkaaVf
import Derived.Test.YtmhmhgegdagjkaaQf
import Derived.Test.YtmhmhgegdagjkaaVk
set_option linter.unusedVariables false
set_option linter.unusedSimpArgs false
namespace Go.Proofs.Ytmhmhgegdagjkaa
open Go.RowKit
set_option linter.unusedSimpArgs false
structure NtW where
  k : Int
  n : Int
  d : List UInt8
  q : Int
end Go.Proofs.Ytmhmhgegdagjkaa
set_option linter.unusedVariables false
set_option linter.unusedSimpArgs false
namespace Go.Proofs.Ytmhmhgegdagjkaa
open Go.RowKit
set_option linter.unusedSimpArgs false
theorem sent_ok {f t p h i a o : Int} {m u : Bool} {xs ds : List UInt8} (h0 : pkB f t p h i a m u xs.length = true) (ho : 0 ≤ o ∧ o ≤ 65535) (hd : ds.length ≤ 24) : pkB o f 1 64 i 0 false false ds.length = true := by
  have hk := pkR_of h0
  rw [pkB, Bool.and_eq_true]
  refine ⟨by rw [pkR, decide_eq_true_eq]; omega, rfl⟩
theorem na_parts {f t p h i a : Int} {m u : Bool} {xs : List UInt8} {o k n : Int} (h0 : naOk f t p h i a m u xs o k n = true) : pkB f t p h i a m u xs.length = true ∧ (0 ≤ o ∧ o ≤ 65535) ∧ (3 ≤ k ∧ k ≤ 6) ∧ (0 ≤ n ∧ n ≤ 65535) := by
  rw [naOk] at h0
  simp only [Bool.and_eq_true, inZ, decide_eq_true_eq] at h0
  exact ⟨h0.1.1.1.1.1, h0.1.1.1.1.2, h0.1.1.1.2, h0.1.1.2⟩
theorem na_out {f t p h i a : Int} {m u : Bool} {xs : List UInt8} {o k n : Int} (h0 : naOk f t p h i a m u xs o k n = true) :
    pkB o f 1 64 i 0 false false (naD f t p h i a m u xs k n).length = true ∧ nFault 1 (naD f t p h i a m u xs k n) = true ∧ naOk o f 1 64 i 0 false false (naD f t p h i a m u xs k n) f 3 0 = false ∧ neOk o f 1 64 i 0 false false (naD f t p h i a m u xs k n) f = false := by
  obtain ⟨h1, h2, h3, h4⟩ := na_parts h0
  have hb : noteB k n ((pkV f t p h i a m u xs).take 20).length = true := by
    rw [noteB, decide_eq_true_eq]
    exact ⟨by omega, h4, by rw [List.length_take]; omega⟩
  obtain ⟨k0, k1, k2, k3⟩ := nt_back hb
  have hn : nFault 1 (naD f t p h i a m u xs k n) = true := by
    rw [nFault, naD, k0, k1, inZ]
    simp
    omega
  refine ⟨sent_ok h1 h2 (nt_le _ _ _), hn, ?_, ?_⟩
  · rw [naOk, hn]; simp
  · have : ¬ k = 1 := by omega
    rw [neOk, naD, k1]
    simp [this]
end Go.Proofs.Ytmhmhgegdagjkaa
