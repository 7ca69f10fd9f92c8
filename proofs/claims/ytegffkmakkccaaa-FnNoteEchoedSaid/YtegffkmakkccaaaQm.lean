import Derived.Test.YtegffkmakkccaaaQa
import Derived.Test.YtegffkmakkccaaaVh
set_option linter.unusedVariables false
set_option linter.unusedSimpArgs false
namespace Go.Proofs.Ytegffkmakkccaaa
open Go.RowKit
theorem nt_shape {k n : Int} {xs : List UInt8} (h : noteB k n xs.length = true) : ∃ x y : UInt8, ntV k n xs = toU8 k :: x :: y :: toU8 (xs.length : Int) :: xs ∧ n = ((256 * x.toNat + y.toNat : Nat) : Int) := by
  have hk := noteB_of h
  obtain ⟨x, y, e, hs⟩ := bytesOf_two n hk.2.1.1 hk.2.1.2
  exact ⟨x, y, by rw [ntV, if_pos h, e]; rfl, hs⟩
theorem nt_len {k n : Int} {xs : List UInt8} (h : noteB k n xs.length = true) : (ntV k n xs).length = 4 + xs.length := by
  obtain ⟨x, y, e, _⟩ := nt_shape h
  rw [e]
  simp only [List.length_cons]
  omega
theorem nt_le (k n : Int) (xs : List UInt8) : (ntV k n xs).length ≤ 24 := by
  by_cases h : noteB k n xs.length = true
  · have := noteB_of h
    rw [nt_len h]; omega
  · rw [ntV, if_neg h]; simp
theorem nt_back {k n : Int} {xs : List UInt8} (h : noteB k n xs.length = true) : nfOk (ntV k n xs) = true ∧ nfK (ntV k n xs) = k ∧ nfN (ntV k n xs) = n ∧ nfD (ntV k n xs) = xs := by
  have hk := noteB_of h
  obtain ⟨x, y, e, hs⟩ := nt_shape h
  have hn := numAt_two (ntV k n xs) 1 1 rfl (by rw [nt_len h]; omega)
  have hx := toU8_byte (v := k) (by omega) (by omega)
  have hl := toU8_byte (v := (xs.length : Int)) (by omega) (by omega)
  have e0 : ((ntV k n xs).getD 0 0).toNat = (toU8 k).toNat := by rw [e]; rfl
  have e1 : ((ntV k n xs).getD 1 0).toNat = x.toNat := by rw [e]; rfl
  have e2 : ((ntV k n xs).getD (1 + 1) 0).toNat = y.toNat := by rw [e]; rfl
  have e3 : ((ntV k n xs).getD 3 0).toNat = (toU8 (xs.length : Int)).toNat := by rw [e]; rfl
  have e4 : (ntV k n xs).drop 4 = xs := by rw [e]; rfl
  rw [e1, e2, ← hs] at hn
  have hok : nfOk (ntV k n xs) = true := by
    rw [nfOk, nfB, nfHead, hn, e0, hx, e4, h, Bool.and_true, decide_eq_true_eq, nt_len h, e3]
    omega
  obtain ⟨p1, p2, p3⟩ := nf_pos hok
  exact ⟨hok, by rw [p1, e0, hx], by rw [p2, hn], by rw [p3, e4]⟩
theorem nf_nt {xs : List UInt8} (h : nfOk xs = true) : noteB (nfK xs) (nfN xs) (nfD xs).length = true := by
  obtain ⟨p1, p2, p3⟩ := nf_pos h
  rw [p1, p2, p3]
  rw [nfOk, Bool.and_eq_true] at h
  exact h.2
theorem nfD_len (xs : List UInt8) : (nfD xs).length ≤ xs.length := by
  unfold nfD
  split
  · simp only [List.length_drop]; omega
  · simp
end Go.Proofs.Ytegffkmakkccaaa
