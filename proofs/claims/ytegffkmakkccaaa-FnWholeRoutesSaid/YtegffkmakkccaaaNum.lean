import Init
namespace Go.Proofs.Ytegffkmakkccaaa
def sAdd (a b : Int) : Int := if 65535 < a + b then a + b - 65535 else a + b
theorem sAdd_hi {a b : Int} (h : 65535 < a + b) : sAdd a b = a + b - 65535 := if_pos h
theorem sAdd_lo {a b : Int} (h : a + b ≤ 65535) : sAdd a b = a + b := if_neg (by omega)
def wt (k : Nat) (x : UInt8) : Nat := if k % 2 = 0 then 256 * x.toNat else x.toNat
theorem wt_even {k : Nat} (h : k % 2 = 0) (x : UInt8) : wt k x = 256 * x.toNat := if_pos h
theorem wt_odd {k : Nat} (h : k % 2 = 1) (x : UInt8) : wt k x = x.toNat := if_neg (by omega)
def pk (xs : List UInt8) : Nat → Nat
  | 0 => 0
  | k + 1 => pk xs k + wt k (xs.getD k 0)
def can (n : Nat) : Int := if n = 0 then 0 else ((n - 1) % 65535 + 1 : Nat)
theorem can_bd (n : Nat) : 0 ≤ can n ∧ can n ≤ 65535 := by
  unfold can; split <;> omega
theorem can_succ (m : Nat) : can (m + 1) = ((m % 65535 + 1 : Nat) : Int) := by simp [can]
theorem can_add (n v : Nat) (hv : v ≤ 65535) : sAdd (can n) (v : Int) = can (n + v) := by
  rcases n with _ | m
  · rcases v with _ | u
    · simp [can, sAdd]
    · rw [Nat.zero_add, can_succ]
      have : can 0 = 0 := rfl
      rw [this, sAdd_lo (by omega)]
      omega
  · have e : m + 1 + v = (m + v) + 1 := by omega
    rw [e, can_succ, can_succ]
    unfold sAdd
    split <;> omega
def sumOf (xs : List UInt8) : Int := 65535 - can (pk xs xs.length)
theorem sumOf_bd (xs : List UInt8) : 0 ≤ sumOf xs ∧ sumOf xs ≤ 65535 := by
  have := can_bd (pk xs xs.length); unfold sumOf; omega
end Go.Proofs.Ytegffkmakkccaaa
namespace Go.Proofs.Ytegffkmakkccaaa
def numV (xs : List UInt8) (a : Nat) : Nat → Int
  | 0 => 0
  | k + 1 => numV xs a k * 256 + ((xs.getD (a + k) 0).toNat : Int)
theorem numV_bd (xs : List UInt8) (a k : Nat) : 0 ≤ numV xs a k ∧ numV xs a k < (256 : Int) ^ k := by
  induction k with
  | zero => simp [numV]
  | succ k ih =>
    have h := (xs.getD (a + k) 0).toNat_lt
    have e : (256 : Int) ^ (k + 1) = 256 ^ k * 256 := by rw [Int.pow_succ]
    simp only [numV]
    rw [e]
    omega
theorem numV_small (xs : List UInt8) (a k : Nat) (hk : k ≤ 3) : 0 ≤ numV xs a k ∧ numV xs a k ≤ 16777215 := by
  have h := numV_bd xs a k
  have : k = 0 ∨ k = 1 ∨ k = 2 ∨ k = 3 := by omega
  rcases this with rfl | rfl | rfl | rfl <;> omega
def numAt (xs : List UInt8) (a n : Int) : Int :=
  if 1 ≤ n ∧ n ≤ 4 ∧ 0 ≤ a ∧ a ≤ (xs.length : Int) - n then numV xs a.toNat n.toNat else -1
end Go.Proofs.Ytegffkmakkccaaa
namespace Go.Proofs.Ytegffkmakkccaaa
def beB (v : Nat) : Nat → List UInt8
  | 0 => []
  | k + 1 => beB (v / 256) k ++ [UInt8.ofNat (v % 256)]
theorem beB_len (v k : Nat) : (beB v k).length = k := by
  induction k generalizing v with
  | zero => rfl
  | succ k ih => simp [beB, ih]
def bytesOf (v n : Int) : List UInt8 :=
  if 1 ≤ n ∧ n ≤ 4 ∧ 0 ≤ v ∧ v < (256 : Int) ^ n.toNat then beB v.toNat n.toNat else []
theorem bytesOf_len (v n : Int) : (bytesOf v n).length ≤ 4 := by
  unfold bytesOf
  split
  · rw [beB_len]; omega
  · simp
theorem beB_snoc (v k j : Nat) : beB v (k + j) = beB (v / 256 ^ j) k ++ beB v j := by
  induction j generalizing v k with
  | zero => simp [beB]
  | succ j ih =>
    show beB (v / 256) (k + j) ++ [UInt8.ofNat (v % 256)] = _
    rw [ih]
    simp only [beB, List.append_assoc]
    rw [Nat.div_div_eq_div_mul, ← Nat.pow_succ']
end Go.Proofs.Ytegffkmakkccaaa
namespace Go.Proofs.Ytegffkmakkccaaa
end Go.Proofs.Ytegffkmakkccaaa
