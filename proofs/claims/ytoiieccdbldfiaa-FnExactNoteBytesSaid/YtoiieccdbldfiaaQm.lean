import Derived.Test.YtoiieccdbldfiaaQa
import Derived.Test.YtoiieccdbldfiaaVh
set_option linter.unusedVariables false
set_option linter.unusedSimpArgs false
namespace Go.Proofs.Ytoiieccdbldfiaa
open Go.RowKit

/-! mathematics of notes -/
theorem nt_two (x y : UInt8) : bytesOf ((256 * x.toNat + y.toNat : Nat) : Int) 2 = [x, y] := by
  have h1 := x.toNat_lt
  have h2 := y.toNat_lt
  obtain ⟨a, b, e, hs⟩ := bytesOf_two ((256 * x.toNat + y.toNat : Nat) : Int) (by omega) (by omega)
  have h3 := a.toNat_lt
  have h4 := b.toNat_lt
  have e1 : a = x := UInt8.toNat_inj.1 (by omega)
  have e2 : b = y := UInt8.toNat_inj.1 (by omega)
  rw [e, e1, e2]
theorem nt_u8 (x : UInt8) : toU8 ((x.toNat : Nat) : Int) = x := by
  have h := x.toNat_lt
  apply UInt8.toNat_inj.1
  have := toU8_byte (v := ((x.toNat : Nat) : Int)) (by omega) (by omega)
  omega
theorem nt_shape {k n : Int} {xs : List UInt8} (h : noteB k n xs.length = true) : ∃ x y : UInt8, ntV k n xs = toU8 k :: x :: y :: toU8 (xs.length : Int) :: xs ∧ n = ((256 * x.toNat + y.toNat : Nat) : Int) := by
  have hk := noteB_of h
  obtain ⟨x, y, e, hs⟩ := bytesOf_two n hk.2.1.1 hk.2.1.2
  exact ⟨x, y, by rw [ntV, if_pos h, e]; rfl, hs⟩
theorem nt_len {k n : Int} {xs : List UInt8} (h : noteB k n xs.length = true) : (ntV k n xs).length = 4 + xs.length := by
  obtain ⟨x, y, e, _⟩ := nt_shape h
  rw [e]
  simp only [List.length_cons]
  omega
theorem nt_le (k n : Int) (xs : List UInt8) : (ntV k n xs).length ≤ 24 := by
  by_cases h : noteB k n xs.length = true
  · have := noteB_of h
    rw [nt_len h]; omega
  · rw [ntV, if_neg h]; simp
/-- a note's bytes tell it -/
theorem nt_back {k n : Int} {xs : List UInt8} (h : noteB k n xs.length = true) : nfOk (ntV k n xs) = true ∧ nfK (ntV k n xs) = k ∧ nfN (ntV k n xs) = n ∧ nfD (ntV k n xs) = xs := by
  have hk := noteB_of h
  obtain ⟨x, y, e, hs⟩ := nt_shape h
  have hn := numAt_two (ntV k n xs) 1 1 rfl (by rw [nt_len h]; omega)
  have hx := toU8_byte (v := k) (by omega) (by omega)
  have hl := toU8_byte (v := (xs.length : Int)) (by omega) (by omega)
  have e0 : ((ntV k n xs).getD 0 0).toNat = (toU8 k).toNat := by rw [e]; rfl
  have e1 : ((ntV k n xs).getD 1 0).toNat = x.toNat := by rw [e]; rfl
  have e2 : ((ntV k n xs).getD (1 + 1) 0).toNat = y.toNat := by rw [e]; rfl
  have e3 : ((ntV k n xs).getD 3 0).toNat = (toU8 (xs.length : Int)).toNat := by rw [e]; rfl
  have e4 : (ntV k n xs).drop 4 = xs := by rw [e]; rfl
  rw [e1, e2, ← hs] at hn
  have hok : nfOk (ntV k n xs) = true := by
    rw [nfOk, nfB, nfHead, hn, e0, hx, e4, h, Bool.and_true, decide_eq_true_eq, nt_len h, e3]
    omega
  obtain ⟨p1, p2, p3⟩ := nf_pos hok
  exact ⟨hok, by rw [p1, e0, hx], by rw [p2, hn], by rw [p3, e4]⟩
theorem nf_four {xs : List UInt8} (h : nfOk xs = true) : (xs.getD 3 0).toNat + 4 = xs.length ∧ 4 ≤ xs.length := by
  rw [nfOk, nfHead, Bool.and_eq_true, decide_eq_true_eq] at h
  exact ⟨h.1.2, h.1.1⟩
theorem nf_nt {xs : List UInt8} (h : nfOk xs = true) : noteB (nfK xs) (nfN xs) (nfD xs).length = true := by
  obtain ⟨p1, p2, p3⟩ := nf_pos h
  rw [p1, p2, p3]
  rw [nfOk, Bool.and_eq_true] at h
  exact h.2
/-- what is read was told -/
theorem nf_back {xs : List UInt8} (h : nfOk xs = true) : ntV (nfK xs) (nfN xs) (nfD xs) = xs := by
  have h4 := nf_four h
  have hb := nf_nt h
  obtain ⟨p1, p2, p3⟩ := nf_pos h
  match xs, h4 with
  | a :: b :: c :: d :: r, h4 =>
    have hn := numAt_two (a :: b :: c :: d :: r) 1 1 rfl (by simp only [List.length_cons]; omega)
    have hn' : nfN (a :: b :: c :: d :: r) = ((256 * b.toNat + c.toNat : Nat) : Int) := by rw [p2, hn]; rfl
    have hk' : nfK (a :: b :: c :: d :: r) = ((a.toNat : Nat) : Int) := by rw [p1]; rfl
    have hd' : nfD (a :: b :: c :: d :: r) = r := by rw [p3]; rfl
    have hl : (r.length : Int) = ((d.toNat : Nat) : Int) := by
      have := h4.1
      simp only [List.length_cons] at this
      have e : ((a :: b :: c :: d :: r).getD 3 0) = d := rfl
      rw [e] at this
      omega
    rw [ntV, if_pos hb, hn', hk', hd', hl, nt_u8, nt_two, nt_u8]
    rfl
theorem nf_more {xs : List UInt8} (h : nfOk xs = true) (x : UInt8) : nfOk (xs ++ [x]) = false := by
  have h4 := nf_four h
  rw [Bool.eq_false_iff]
  intro h'
  have h5 := nf_four h'
  have e : (xs ++ [x]).getD 3 0 = xs.getD 3 0 := by
    rw [List.getD_eq_getElem?_getD, List.getD_eq_getElem?_getD, List.getElem?_append_left (by omega)]
  rw [e, List.length_append, List.length_cons, List.length_nil] at h5
  omega
theorem nfD_len (xs : List UInt8) : (nfD xs).length ≤ xs.length := by
  unfold nfD
  split
  · simp only [List.length_drop]; omega
  · simp
end Go.Proofs.Ytoiieccdbldfiaa
