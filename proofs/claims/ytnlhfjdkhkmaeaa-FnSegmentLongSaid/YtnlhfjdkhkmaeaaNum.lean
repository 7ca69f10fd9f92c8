import Init
namespace Go.Proofs.Ytnlhfjdkhkmaeaa
def sAdd (a b : Int) : Int := if 65535 < a + b then a + b - 65535 else a + b
theorem sAdd_hi {a b : Int} (h : 65535 < a + b) : sAdd a b = a + b - 65535 := if_pos h
theorem sAdd_lo {a b : Int} (h : a + b ≤ 65535) : sAdd a b = a + b := if_neg (by omega)
def wt (k : Nat) (x : UInt8) : Nat := if k % 2 = 0 then 256 * x.toNat else x.toNat
theorem wt_le (k : Nat) (x : UInt8) : wt k x ≤ 65280 := by
  have := x.toNat_lt; unfold wt; split <;> omega
theorem wt_even {k : Nat} (h : k % 2 = 0) (x : UInt8) : wt k x = 256 * x.toNat := if_pos h
theorem wt_odd {k : Nat} (h : k % 2 = 1) (x : UInt8) : wt k x = x.toNat := if_neg (by omega)
def pk (xs : List UInt8) : Nat → Nat
  | 0 => 0
  | k + 1 => pk xs k + wt k (xs.getD k 0)
def can (n : Nat) : Int := if n = 0 then 0 else ((n - 1) % 65535 + 1 : Nat)
theorem can_bd (n : Nat) : 0 ≤ can n ∧ can n ≤ 65535 := by
  unfold can; split <;> omega
theorem can_succ (m : Nat) : can (m + 1) = ((m % 65535 + 1 : Nat) : Int) := by simp [can]
theorem can_add (n v : Nat) (hv : v ≤ 65535) : sAdd (can n) (v : Int) = can (n + v) := by
  rcases n with _ | m
  · rcases v with _ | u
    · simp [can, sAdd]
    · rw [Nat.zero_add, can_succ]
      have : can 0 = 0 := rfl
      rw [this, sAdd_lo (by omega)]
      omega
  · have e : m + 1 + v = (m + v) + 1 := by omega
    rw [e, can_succ, can_succ]
    unfold sAdd
    split <;> omega
theorem can_mod (n : Nat) : (65535 - can n) % 65535 = (65535 - (n % 65535 : Nat) : Int) % 65535 := by
  unfold can; split <;> omega
def sumOf (xs : List UInt8) : Int := 65535 - can (pk xs xs.length)
theorem sumOf_bd (xs : List UInt8) : 0 ≤ sumOf xs ∧ sumOf xs ≤ 65535 := by
  have := can_bd (pk xs xs.length); unfold sumOf; omega
theorem pk_cons2 (x y : UInt8) (r : List UInt8) (k : Nat) : pk (x :: y :: r) (k + 2) = 256 * x.toNat + y.toNat + pk r k := by
  induction k with
  | zero => simp [pk, wt]
  | succ k ih =>
    have e : pk (x :: y :: r) (k + 1 + 2) = pk (x :: y :: r) (k + 2) + wt (k + 2) ((x :: y :: r).getD (k + 2) 0) := rfl
    have e2 : wt (k + 2) ((x :: y :: r).getD (k + 2) 0) = wt k (r.getD k 0) := by
      have : (x :: y :: r).getD (k + 2) 0 = r.getD k 0 := rfl
      rw [this]; unfold wt; simp
    rw [e, ih, e2]
    show _ = 256 * x.toNat + y.toNat + (pk r k + wt k (r.getD k 0))
    omega
theorem pk_set (xs : List UInt8) (k : Nat) (y : UInt8) (m : Nat) :
    pk (xs.set k y) m + (if k < m ∧ k < xs.length then wt k (xs.getD k 0) else 0) = pk xs m + (if k < m ∧ k < xs.length then wt k y else 0) := by
  induction m with
  | zero => simp [pk]
  | succ m ih =>
    have e1 : pk (xs.set k y) (m + 1) = pk (xs.set k y) m + wt m ((xs.set k y).getD m 0) := rfl
    have e2 : pk xs (m + 1) = pk xs m + wt m (xs.getD m 0) := rfl
    rw [e1, e2]
    by_cases hl : k < xs.length
    · by_cases hkm : k = m
      · subst hkm
        rw [if_neg (by omega), if_neg (by omega)] at ih
        rw [if_pos (by omega), if_pos (by omega)]
        have : (xs.set k y).getD k 0 = y := by simp [List.getD, hl]
        rw [this]; omega
      · have : (xs.set k y).getD m 0 = xs.getD m 0 := by simp [List.getD, List.getElem?_set_ne hkm]
        rw [this]
        by_cases h2 : k < m
        · rw [if_pos (by omega), if_pos (by omega)] at ih
          rw [if_pos (by omega), if_pos (by omega)]; omega
        · rw [if_neg (by omega), if_neg (by omega)] at ih
          rw [if_neg (by omega), if_neg (by omega)]; omega
    · have : xs.set k y = xs := List.set_eq_of_length_le (by omega)
      rw [this] at ih ⊢
      rw [if_neg (by omega), if_neg (by omega)]
theorem sumOf_mod (xs : List UInt8) : sumOf xs % 65535 = (65535 - (pk xs xs.length % 65535 : Nat) : Int) % 65535 := can_mod _
end Go.Proofs.Ytnlhfjdkhkmaeaa
namespace Go.Proofs.Ytnlhfjdkhkmaeaa
def numV (xs : List UInt8) (a : Nat) : Nat → Int
  | 0 => 0
  | k + 1 => numV xs a k * 256 + ((xs.getD (a + k) 0).toNat : Int)
theorem numV_bd (xs : List UInt8) (a k : Nat) : 0 ≤ numV xs a k ∧ numV xs a k < (256 : Int) ^ k := by
  induction k with
  | zero => simp [numV]
  | succ k ih =>
    have h := (xs.getD (a + k) 0).toNat_lt
    have e : (256 : Int) ^ (k + 1) = 256 ^ k * 256 := by rw [Int.pow_succ]
    simp only [numV]
    rw [e]
    omega
theorem numV_small (xs : List UInt8) (a k : Nat) (hk : k ≤ 3) : 0 ≤ numV xs a k ∧ numV xs a k ≤ 16777215 := by
  have h := numV_bd xs a k
  have : k = 0 ∨ k = 1 ∨ k = 2 ∨ k = 3 := by omega
  rcases this with rfl | rfl | rfl | rfl <;> omega
def numAt (xs : List UInt8) (a n : Int) : Int :=
  if 1 ≤ n ∧ n ≤ 4 ∧ 0 ≤ a ∧ a ≤ (xs.length : Int) - n then numV xs a.toNat n.toNat else -1
end Go.Proofs.Ytnlhfjdkhkmaeaa
namespace Go.Proofs.Ytnlhfjdkhkmaeaa
def beB (v : Nat) : Nat → List UInt8
  | 0 => []
  | k + 1 => beB (v / 256) k ++ [UInt8.ofNat (v % 256)]
theorem beB_len (v k : Nat) : (beB v k).length = k := by
  induction k generalizing v with
  | zero => rfl
  | succ k ih => simp [beB, ih]
def bytesOf (v n : Int) : List UInt8 :=
  if 1 ≤ n ∧ n ≤ 4 ∧ 0 ≤ v ∧ v < (256 : Int) ^ n.toNat then beB v.toNat n.toNat else []
theorem bytesOf_len (v n : Int) : (bytesOf v n).length ≤ 4 := by
  unfold bytesOf
  split
  · rw [beB_len]; omega
  · simp
theorem beB_snoc (v k j : Nat) : beB v (k + j) = beB (v / 256 ^ j) k ++ beB v j := by
  induction j generalizing v k with
  | zero => simp [beB]
  | succ j ih =>
    show beB (v / 256) (k + j) ++ [UInt8.ofNat (v % 256)] = _
    rw [ih]
    simp only [beB, List.append_assoc]
    rw [Nat.div_div_eq_div_mul, ← Nat.pow_succ']
end Go.Proofs.Ytnlhfjdkhkmaeaa
namespace Go.Proofs.Ytnlhfjdkhkmaeaa
theorem beB_at (v n k : Nat) (h : k < n) : (beB v n)[k]? = some (UInt8.ofNat (v / 256 ^ (n - 1 - k) % 256)) := by
  induction n generalizing v with
  | zero => omega
  | succ n ih =>
    simp only [beB]
    by_cases hk : k < n
    · rw [List.getElem?_append_left (by rw [beB_len]; exact hk), ih _ hk, Nat.div_div_eq_div_mul, ← Nat.pow_succ']
      have : (n - 1 - k).succ = n + 1 - 1 - k := by omega
      rw [this]
    · have hkn : k = n := by omega
      subst hkn
      rw [List.getElem?_append_right (by rw [beB_len]; omega), beB_len]
      simp
theorem numV_beB (pre : List UInt8) (v n k : Nat) (hk : k ≤ n) (hv : v < 256 ^ n) : numV (pre ++ beB v n) pre.length k = ((v / 256 ^ (n - k) : Nat) : Int) := by
  induction k with
  | zero => simp [numV, Nat.div_eq_of_lt hv]
  | succ k ih =>
    simp only [numV]
    rw [ih (by omega)]
    have e : (pre ++ beB v n).getD (pre.length + k) 0 = UInt8.ofNat (v / 256 ^ (n - 1 - k) % 256) := by
      rw [List.getD, List.getElem?_append_right (by omega), Nat.add_sub_cancel_left, beB_at v n k (by omega)]
      rfl
    rw [e]
    have e2 : n - k = (n - (k + 1)) + 1 := by omega
    have e3 : n - 1 - k = n - (k + 1) := by omega
    rw [e2, e3, Nat.pow_succ, ← Nat.div_div_eq_div_mul]
    simp
    omega
theorem numAt_bytesOf (pre : List UInt8) (v n : Int) (h : (bytesOf v n).length ≠ 0) : numAt (pre ++ bytesOf v n) pre.length n = v ∧ ((bytesOf v n).length : Int) = n := by
  unfold bytesOf at h ⊢
  by_cases hc : 1 ≤ n ∧ n ≤ 4 ∧ 0 ≤ v ∧ v < (256 : Int) ^ n.toNat
  · rw [if_pos hc]
    obtain ⟨h1, h2, h3, h4⟩ := hc
    obtain ⟨m, rfl⟩ := Int.eq_ofNat_of_zero_le (show 0 ≤ n by omega)
    obtain ⟨u, rfl⟩ := Int.eq_ofNat_of_zero_le h3
    simp only [Int.toNat_natCast] at h4 ⊢
    have h5 : u < 256 ^ m := by
      have : ((256 ^ m : Nat) : Int) = (256 : Int) ^ m := by simp
      omega
    refine ⟨?_, by rw [beB_len]⟩
    unfold numAt
    rw [if_pos ⟨h1, h2, by omega, by rw [List.length_append, beB_len]; omega⟩]
    simp only [Int.toNat_natCast]
    rw [numV_beB _ _ _ _ (Nat.le_refl _) h5]
    simp
  · rw [if_neg hc] at h
    simp at h
theorem beB_numV (xs : List UInt8) (a k : Nat) (h : a + k ≤ xs.length) : beB (numV xs a k).toNat k = (xs.drop a).take k := by
  induction k with
  | zero => simp [beB]
  | succ k ih =>
    have hb := numV_bd xs a k
    have hx := (xs.getD (a + k) 0).toNat_lt
    simp only [numV, beB]
    have e1 : (numV xs a k * 256 + ((xs.getD (a + k) 0).toNat : Int)).toNat / 256 = (numV xs a k).toNat := by omega
    have e2 : (numV xs a k * 256 + ((xs.getD (a + k) 0).toNat : Int)).toNat % 256 = (xs.getD (a + k) 0).toNat := by omega
    rw [e1, e2, ih (by omega), List.take_add_one, List.getElem?_drop]
    have hl : a + k < xs.length := by omega
    rw [List.getElem?_eq_getElem hl]
    simp [List.getD, hl]
theorem bytesOf_numAt (xs : List UInt8) (a n : Int) (h : 0 ≤ numAt xs a n) : 1 ≤ n ∧ n ≤ 4 ∧ 0 ≤ a ∧ a + n ≤ xs.length ∧ bytesOf (numAt xs a n) n = (xs.drop a.toNat).take n.toNat := by
  unfold numAt at h ⊢
  by_cases hc : 1 ≤ n ∧ n ≤ 4 ∧ 0 ≤ a ∧ a ≤ (xs.length : Int) - n
  · rw [if_pos hc]
    obtain ⟨h1, h2, h3, h4⟩ := hc
    refine ⟨h1, h2, h3, by omega, ?_⟩
    have hb := numV_bd xs a.toNat n.toNat
    unfold bytesOf
    rw [if_pos ⟨h1, h2, hb.1, hb.2⟩]
    exact beB_numV xs _ _ (by omega)
  · rw [if_neg hc] at h
    omega
theorem bytesOf_two (s : Int) (h0 : 0 ≤ s) (h1 : s ≤ 65535) : ∃ x y : UInt8, bytesOf s 2 = [x, y] ∧ s = ((256 * x.toNat + y.toNat : Nat) : Int) := by
  obtain ⟨u, rfl⟩ := Int.eq_ofNat_of_zero_le h0
  refine ⟨UInt8.ofNat (u / 256 % 256), UInt8.ofNat (u % 256), ?_, ?_⟩
  · unfold bytesOf
    rw [if_pos ⟨by omega, by omega, h0, by simp; omega⟩]
    rfl
  · simp
    omega
end Go.Proofs.Ytnlhfjdkhkmaeaa
