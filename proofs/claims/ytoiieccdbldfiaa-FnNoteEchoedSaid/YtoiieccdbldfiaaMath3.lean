import Derived.Test.YtoiieccdbldfiaaNum
namespace Go.Proofs.Ytoiieccdbldfiaa
theorem sAdd_mod (a b : Int) : sAdd a b % 65535 = (a + b) % 65535 := by
  unfold sAdd; split <;> omega
theorem can_mod' (n : Nat) : can n % 65535 = (n : Int) % 65535 := by
  rcases n with _ | m
  · rfl
  · rw [can_succ]; omega
/-- what a turned sum is, if all three numbers are pairs -/
def turn3 (s o n : Int) : Int := sAdd (sAdd s o) (65535 - n)
theorem turn3_bd {s o n : Int} (hs : 0 ≤ s ∧ s ≤ 65535) (ho : 0 ≤ o ∧ o ≤ 65535) (hn : 0 ≤ n ∧ n ≤ 65535) : 0 ≤ turn3 s o n ∧ turn3 s o n ≤ 65535 :=
  sAdd_bd (sAdd_bd hs ho) (by omega)
theorem turn3_mod (s o n : Int) : turn3 s o n % 65535 = (s + o - n) % 65535 := by
  unfold turn3
  rw [sAdd_mod]
  have := sAdd_mod s o
  omega
theorem turn3_back (s o n : Int) : turn3 (turn3 s o n) n o % 65535 = s % 65535 := by
  rw [turn3_mod]
  have := turn3_mod s o n
  omega
theorem sumOf_pair (front : List UInt8) (hf : front.length % 2 = 0) (v : Int) (h0 : 0 ≤ v) (h1 : v ≤ 65535) : sumOf (front ++ bytesOf v 2) = 65535 - can (pk front front.length + v.toNat) := by
  obtain ⟨x, y, hb, hv⟩ := bytesOf_two v h0 h1
  have e : v.toNat = 256 * x.toNat + y.toNat := by omega
  unfold sumOf
  rw [hb, pk_two _ _ _ hf, e]
theorem turn_fits (front : List UInt8) (hf : front.length % 2 = 0) (o n : Int) (ho : 0 ≤ o ∧ o ≤ 65535) (hn : 0 ≤ n ∧ n ≤ 65535) :
    turn3 (sumOf (front ++ bytesOf o 2)) o n % 65535 = sumOf (front ++ bytesOf n 2) % 65535 := by
  rw [turn3_mod, sumOf_pair front hf o ho.1 ho.2, sumOf_pair front hf n hn.1 hn.2]
  have h1 := can_mod' (pk front front.length + o.toNat)
  have h2 := can_mod' (pk front front.length + n.toNat)
  omega
theorem sum_self (xs : List UInt8) (hx : xs.length % 2 = 0) (s : Int) (h0 : 0 ≤ s) (h1 : s ≤ 65535) :
    (sumOf (xs ++ bytesOf s 2) % 65535 = 0) ↔ s % 65535 = sumOf xs % 65535 := by
  rw [sumOf_pair xs hx s h0 h1]
  unfold sumOf
  have a1 := can_mod' (pk xs xs.length + s.toNat)
  have a2 := can_mod' (pk xs xs.length)
  omega
end Go.Proofs.Ytoiieccdbldfiaa
