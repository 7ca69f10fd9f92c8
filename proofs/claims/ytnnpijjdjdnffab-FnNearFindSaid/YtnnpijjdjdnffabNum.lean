import Init
namespace Go.Proofs.Ytnnpijjdjdnffab

/-- what the sum of two pairs is, its overflow added again -/
def sAdd (a b : Int) : Int := if 65535 < a + b then a + b - 65535 else a + b
theorem sAdd_hi {a b : Int} (h : 65535 < a + b) : sAdd a b = a + b - 65535 := if_pos h
theorem sAdd_lo {a b : Int} (h : a + b ≤ 65535) : sAdd a b = a + b := if_neg (by omega)
theorem sAdd_bd {a b : Int} (ha : 0 ≤ a ∧ a ≤ 65535) (hb : 0 ≤ b ∧ b ≤ 65535) : 0 ≤ sAdd a b ∧ sAdd a b ≤ 65535 := by
  unfold sAdd; split <;> omega

/-- the weight of the byte at place k -/
def wt (k : Nat) (x : UInt8) : Nat := if k % 2 = 0 then 256 * x.toNat else x.toNat
theorem wt_le (k : Nat) (x : UInt8) : wt k x ≤ 65280 := by
  have := x.toNat_lt; unfold wt; split <;> omega
theorem wt_even {k : Nat} (h : k % 2 = 0) (x : UInt8) : wt k x = 256 * x.toNat := if_pos h
theorem wt_odd {k : Nat} (h : k % 2 = 1) (x : UInt8) : wt k x = x.toNat := if_neg (by omega)

/-- the plain sum of the first k bytes, each with its weight -/
def pk (xs : List UInt8) : Nat → Nat
  | 0 => 0
  | k + 1 => pk xs k + wt k (xs.getD k 0)

/-- the number in 1..65535 (or 0) that stands for a plain sum -/
def can (n : Nat) : Int := if n = 0 then 0 else ((n - 1) % 65535 + 1 : Nat)
theorem can_bd (n : Nat) : 0 ≤ can n ∧ can n ≤ 65535 := by
  unfold can; split <;> omega
theorem can_succ (m : Nat) : can (m + 1) = ((m % 65535 + 1 : Nat) : Int) := by simp [can]
theorem can_add (n v : Nat) (hv : v ≤ 65535) : sAdd (can n) (v : Int) = can (n + v) := by
  rcases n with _ | m
  · rcases v with _ | u
    · simp [can, sAdd]
    · rw [Nat.zero_add, can_succ]
      have : can 0 = 0 := rfl
      rw [this, sAdd_lo (by omega)]
      omega
  · have e : m + 1 + v = (m + v) + 1 := by omega
    rw [e, can_succ, can_succ]
    unfold sAdd
    split <;> omega
theorem can_mod (n : Nat) : (65535 - can n) % 65535 = (65535 - (n % 65535 : Nat) : Int) % 65535 := by
  unfold can; split <;> omega

/-- the sum of bytes -/
def sumOf (xs : List UInt8) : Int := 65535 - can (pk xs xs.length)
theorem sumOf_bd (xs : List UInt8) : 0 ≤ sumOf xs ∧ sumOf xs ≤ 65535 := by
  have := can_bd (pk xs xs.length); unfold sumOf; omega

theorem pk_cons2 (x y : UInt8) (r : List UInt8) (k : Nat) : pk (x :: y :: r) (k + 2) = 256 * x.toNat + y.toNat + pk r k := by
  induction k with
  | zero => simp [pk, wt]
  | succ k ih =>
    have e : pk (x :: y :: r) (k + 1 + 2) = pk (x :: y :: r) (k + 2) + wt (k + 2) ((x :: y :: r).getD (k + 2) 0) := rfl
    have e2 : wt (k + 2) ((x :: y :: r).getD (k + 2) 0) = wt k (r.getD k 0) := by
      have : (x :: y :: r).getD (k + 2) 0 = r.getD k 0 := rfl
      rw [this]; unfold wt; simp
    rw [e, ih, e2]
    show _ = 256 * x.toNat + y.toNat + (pk r k + wt k (r.getD k 0))
    omega
theorem sumOf_swap (a b c d : UInt8) (r : List UInt8) : sumOf (c :: d :: a :: b :: r) = sumOf (a :: b :: c :: d :: r) := by
  unfold sumOf
  have h1 : pk (c :: d :: a :: b :: r) (c :: d :: a :: b :: r).length = 256 * c.toNat + d.toNat + (256 * a.toNat + b.toNat + pk r r.length) := by
    show pk _ (r.length + 2 + 2) = _
    rw [pk_cons2, pk_cons2]
  have h2 : pk (a :: b :: c :: d :: r) (a :: b :: c :: d :: r).length = 256 * a.toNat + b.toNat + (256 * c.toNat + d.toNat + pk r r.length) := by
    show pk _ (r.length + 2 + 2) = _
    rw [pk_cons2, pk_cons2]
  rw [h1, h2]
  have : 256 * c.toNat + d.toNat + (256 * a.toNat + b.toNat + pk r r.length) = 256 * a.toNat + b.toNat + (256 * c.toNat + d.toNat + pk r r.length) := by omega
  rw [this]

/-- one byte set: the plain sum turns by the difference of the weights -/
theorem pk_set (xs : List UInt8) (k : Nat) (y : UInt8) (m : Nat) :
    pk (xs.set k y) m + (if k < m ∧ k < xs.length then wt k (xs.getD k 0) else 0) = pk xs m + (if k < m ∧ k < xs.length then wt k y else 0) := by
  induction m with
  | zero => simp [pk]
  | succ m ih =>
    have e1 : pk (xs.set k y) (m + 1) = pk (xs.set k y) m + wt m ((xs.set k y).getD m 0) := rfl
    have e2 : pk xs (m + 1) = pk xs m + wt m (xs.getD m 0) := rfl
    rw [e1, e2]
    by_cases hl : k < xs.length
    · by_cases hkm : k = m
      · subst hkm
        rw [if_neg (by omega), if_neg (by omega)] at ih
        rw [if_pos (by omega), if_pos (by omega)]
        have : (xs.set k y).getD k 0 = y := by simp [List.getD, hl]
        rw [this]; omega
      · have : (xs.set k y).getD m 0 = xs.getD m 0 := by simp [List.getD, List.getElem?_set_ne hkm]
        rw [this]
        by_cases h2 : k < m
        · rw [if_pos (by omega), if_pos (by omega)] at ih
          rw [if_pos (by omega), if_pos (by omega)]; omega
        · rw [if_neg (by omega), if_neg (by omega)] at ih
          rw [if_neg (by omega), if_neg (by omega)]; omega
    · have : xs.set k y = xs := List.set_eq_of_length_le (by omega)
      rw [this] at ih ⊢
      rw [if_neg (by omega), if_neg (by omega)]

theorem sumOf_mod (xs : List UInt8) : sumOf xs % 65535 = (65535 - (pk xs xs.length % 65535 : Nat) : Int) % 65535 := can_mod _

theorem xor16 (x : UInt8) : (x ^^^ 16).toNat = x.toNat + 16 ∨ (x ^^^ 16).toNat + 16 = x.toNat := by
  have : ∀ x : Fin 256, ((UInt8.ofNat x.val) ^^^ 16).toNat = x.val + 16 ∨ ((UInt8.ofNat x.val) ^^^ 16).toNat + 16 = x.val := by decide +kernel
  have h := this ⟨x.toNat, x.toNat_lt⟩
  simpa using h

theorem sumOf_turn (xs : List UInt8) (k : Nat) (hk : k < xs.length) : ¬ sumOf (xs.set k (xs.getD k 0 ^^^ 16)) % 65535 = sumOf xs % 65535 := by
  rw [sumOf_mod, sumOf_mod, List.length_set]
  have h := pk_set xs k (xs.getD k 0 ^^^ 16) xs.length
  rw [if_pos ⟨hk, hk⟩, if_pos ⟨hk, hk⟩] at h
  have h16 := xor16 (xs.getD k 0)
  by_cases he : k % 2 = 0
  · rw [wt_even he, wt_even he] at h
    omega
  · rw [wt_odd (by omega), wt_odd (by omega)] at h
    omega
end Go.Proofs.Ytnnpijjdjdnffab
