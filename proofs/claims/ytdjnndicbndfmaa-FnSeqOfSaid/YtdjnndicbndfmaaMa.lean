import Derived.Test.YtdjnndicbndfmaaTc
set_option linter.unusedVariables false
namespace Go.Proofs.Ytdjnndicbndfmaa
open Go.RowKit
def sqV (x : Int) : Int := x % 65536
def sqL (a b : Int) : Bool := decide (1 ≤ sqV (sqV b - sqV a)) && decide (sqV (sqV b - sqV a) < 32768)
def sqP (near seq : Int) : Int := if (inZ near 0 1000000 && inZ seq 0 65535) = true then near + (if 32768 ≤ sqV (seq - sqV near) then sqV (seq - sqV near) - 65536 else sqV (seq - sqV near)) else near
theorem sq_tmod (x : Int) : (if x.tmod 65536 < 0 then x.tmod 65536 + 65536 else x.tmod 65536) = sqV x := by
  unfold sqV
  rcases Int.le_total 0 x with h | h
  · rw [Int.tmod_eq_emod_of_nonneg h]; split <;> omega
  · have e : x.tmod 65536 = -((-x) % 65536) := by
      rw [← Int.tmod_eq_emod_of_nonneg (by omega : 0 ≤ -x), Int.neg_tmod, Int.neg_neg]
    rw [e]; split <;> omega
theorem sq_round (x : Int) : (0 ≤ sqV x ∧ sqV x < 65536) ∧ sqV (sqV x) = sqV x ∧ sqV (x + 65536) = sqV x ∧ sqV (x - 65536) = sqV x := by
  unfold sqV; omega
theorem sq_less (a b : Int) : (sqL a b && sqL b a) = false ∧ (sqL a b || sqL b a) = (decide (sqV (sqV b - sqV a) ≠ 0) && decide (sqV (sqV b - sqV a) ≠ 32768)) ∧ sqL (a + 40000) (b + 40000) = sqL a b ∧ sqL 0 1 = true := by
  refine ⟨?_, ?_, ?_, by decide⟩
  · rw [Bool.eq_false_iff]
    unfold sqL sqV
    simp only [ne_eq, Bool.and_eq_true, decide_eq_true_eq]
    omega
  · rw [Bool.eq_iff_iff]
    unfold sqL sqV
    simp only [ne_eq, Bool.and_eq_true, Bool.or_eq_true, decide_eq_true_eq]
    omega
  · rw [Bool.eq_iff_iff]
    unfold sqL sqV
    simp only [Bool.and_eq_true, decide_eq_true_eq]
    omega
theorem sq_place {near seq : Int} (h : (inZ near 0 1000000 && inZ seq 0 65535) = true) : sqV (sqP near seq) = seq ∧ sqP near seq - near ≤ 32768 ∧ near - sqP near seq ≤ 32768 := by
  rw [sqP, if_pos h]
  simp only [Bool.and_eq_true, inZ, decide_eq_true_eq] at h
  unfold sqV
  split <;> omega
theorem sq_back {near d : Int} (hn : inZ near 0 1000000 = true) (h0 : -32768 ≤ d) (h1 : d < 32768) : sqP near (sqV (near + d)) = near + d := by
  have h2 : inZ (sqV (near + d)) 0 65535 = true := by
    simp only [inZ, decide_eq_true_eq]
    unfold sqV; omega
  rw [sqP, if_pos (by rw [hn, h2]; rfl)]
  unfold sqV
  split <;> omega
theorem sq_no {near seq : Int} (h : (inZ near 0 1000000 && inZ seq 0 65535) = false) : sqP near seq = near := if_neg (by rw [h]; decide)
end Go.Proofs.Ytdjnndicbndfmaa
