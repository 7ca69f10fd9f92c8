import Derived.Test.YtnnpijjdjdnffabBytes
namespace Go.Proofs.Ytnnpijjdjdnffab
theorem beB_at (v n k : Nat) (h : k < n) : (beB v n)[k]? = some (UInt8.ofNat (v / 256 ^ (n - 1 - k) % 256)) := by
  induction n generalizing v with
  | zero => omega
  | succ n ih =>
    simp only [beB]
    by_cases hk : k < n
    · rw [List.getElem?_append_left (by rw [beB_len]; exact hk), ih _ hk, Nat.div_div_eq_div_mul, ← Nat.pow_succ']
      have : (n - 1 - k).succ = n + 1 - 1 - k := by omega
      rw [this]
    · have hkn : k = n := by omega
      subst hkn
      rw [List.getElem?_append_right (by rw [beB_len]; omega), beB_len]
      simp
theorem numV_beB (pre : List UInt8) (v n k : Nat) (hk : k ≤ n) (hv : v < 256 ^ n) : numV (pre ++ beB v n) pre.length k = ((v / 256 ^ (n - k) : Nat) : Int) := by
  induction k with
  | zero => simp [numV, Nat.div_eq_of_lt hv]
  | succ k ih =>
    simp only [numV]
    rw [ih (by omega)]
    have e : (pre ++ beB v n).getD (pre.length + k) 0 = UInt8.ofNat (v / 256 ^ (n - 1 - k) % 256) := by
      rw [List.getD, List.getElem?_append_right (by omega), Nat.add_sub_cancel_left, beB_at v n k (by omega)]
      rfl
    rw [e]
    have e2 : n - k = (n - (k + 1)) + 1 := by omega
    have e3 : n - 1 - k = n - (k + 1) := by omega
    rw [e2, e3, Nat.pow_succ, ← Nat.div_div_eq_div_mul]
    simp
    omega
theorem numAt_bytesOf (pre : List UInt8) (v n : Int) (h : (bytesOf v n).length ≠ 0) : numAt (pre ++ bytesOf v n) pre.length n = v ∧ ((bytesOf v n).length : Int) = n := by
  unfold bytesOf at h ⊢
  by_cases hc : 1 ≤ n ∧ n ≤ 4 ∧ 0 ≤ v ∧ v < (256 : Int) ^ n.toNat
  · rw [if_pos hc]
    obtain ⟨h1, h2, h3, h4⟩ := hc
    obtain ⟨m, rfl⟩ := Int.eq_ofNat_of_zero_le (show 0 ≤ n by omega)
    obtain ⟨u, rfl⟩ := Int.eq_ofNat_of_zero_le h3
    simp only [Int.toNat_natCast] at h4 ⊢
    have h5 : u < 256 ^ m := by
      have : ((256 ^ m : Nat) : Int) = (256 : Int) ^ m := by simp
      omega
    refine ⟨?_, by rw [beB_len]⟩
    unfold numAt
    rw [if_pos ⟨h1, h2, by omega, by rw [List.length_append, beB_len]; omega⟩]
    simp only [Int.toNat_natCast]
    rw [numV_beB _ _ _ _ (Nat.le_refl _) h5]
    simp
  · rw [if_neg hc] at h
    simp at h
theorem beB_numV (xs : List UInt8) (a k : Nat) (h : a + k ≤ xs.length) : beB (numV xs a k).toNat k = (xs.drop a).take k := by
  induction k with
  | zero => simp [beB]
  | succ k ih =>
    have hb := numV_bd xs a k
    have hx := (xs.getD (a + k) 0).toNat_lt
    simp only [numV, beB]
    have e1 : (numV xs a k * 256 + ((xs.getD (a + k) 0).toNat : Int)).toNat / 256 = (numV xs a k).toNat := by omega
    have e2 : (numV xs a k * 256 + ((xs.getD (a + k) 0).toNat : Int)).toNat % 256 = (xs.getD (a + k) 0).toNat := by omega
    rw [e1, e2, ih (by omega), List.take_add_one, List.getElem?_drop]
    have hl : a + k < xs.length := by omega
    rw [List.getElem?_eq_getElem hl]
    simp [List.getD, hl]
theorem bytesOf_numAt (xs : List UInt8) (a n : Int) (h : 0 ≤ numAt xs a n) : 1 ≤ n ∧ n ≤ 4 ∧ 0 ≤ a ∧ a + n ≤ xs.length ∧ bytesOf (numAt xs a n) n = (xs.drop a.toNat).take n.toNat := by
  unfold numAt at h ⊢
  by_cases hc : 1 ≤ n ∧ n ≤ 4 ∧ 0 ≤ a ∧ a ≤ (xs.length : Int) - n
  · rw [if_pos hc]
    obtain ⟨h1, h2, h3, h4⟩ := hc
    refine ⟨h1, h2, h3, by omega, ?_⟩
    have hb := numV_bd xs a.toNat n.toNat
    unfold bytesOf
    rw [if_pos ⟨h1, h2, hb.1, hb.2⟩]
    exact beB_numV xs _ _ (by omega)
  · rw [if_neg hc] at h
    omega
theorem numAt_neg (xs : List UInt8) (a n : Int) (h : numAt xs a n < 0) : numAt xs a n = -1 := by
  unfold numAt at h ⊢
  split
  · rename_i hc
    rw [if_pos hc] at h
    have := (numV_bd xs a.toNat n.toNat).1
    omega
  · rfl
/-- two bytes behind an even number of bytes -/
theorem pk_two (xs : List UInt8) (x y : UInt8) (h : xs.length % 2 = 0) : pk (xs ++ [x, y]) (xs ++ [x, y]).length = pk xs xs.length + (256 * x.toNat + y.toNat) := by
  have hpre : ∀ k, k ≤ xs.length → pk (xs ++ [x, y]) k = pk xs k := by
    intro k hk
    induction k with
    | zero => rfl
    | succ k ih =>
      show pk (xs ++ [x, y]) k + wt k ((xs ++ [x, y]).getD k 0) = pk xs k + wt k (xs.getD k 0)
      rw [ih (by omega)]
      have : (xs ++ [x, y]).getD k 0 = xs.getD k 0 := by simp [List.getD, List.getElem?_append_left (show k < xs.length by omega)]
      rw [this]
  have hl : (xs ++ [x, y]).length = xs.length + 1 + 1 := by simp
  rw [hl]
  show pk (xs ++ [x, y]) xs.length + wt xs.length ((xs ++ [x, y]).getD xs.length 0) + wt (xs.length + 1) ((xs ++ [x, y]).getD (xs.length + 1) 0) = _
  rw [hpre _ (Nat.le_refl _)]
  have e1 : (xs ++ [x, y]).getD xs.length 0 = x := by simp [List.getD]
  have e2 : (xs ++ [x, y]).getD (xs.length + 1) 0 = y := by simp [List.getD]
  rw [e1, e2, wt_even h, wt_odd (by omega)]
  omega
theorem bytesOf_two (s : Int) (h0 : 0 ≤ s) (h1 : s ≤ 65535) : ∃ x y : UInt8, bytesOf s 2 = [x, y] ∧ s = ((256 * x.toNat + y.toNat : Nat) : Int) := by
  obtain ⟨u, rfl⟩ := Int.eq_ofNat_of_zero_le h0
  refine ⟨UInt8.ofNat (u / 256 % 256), UInt8.ofNat (u % 256), ?_, ?_⟩
  · unfold bytesOf
    rw [if_pos ⟨by omega, by omega, h0, by simp; omega⟩]
    rfl
  · simp
    omega
end Go.Proofs.Ytnnpijjdjdnffab
