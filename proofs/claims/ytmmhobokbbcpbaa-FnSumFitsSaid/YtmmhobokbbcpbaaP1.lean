import Derived.Test.YtmmhobokbbcpbaaDraw3
import Derived.Test.YtmmhobokbbcpbaaC1e
import Derived.Test.YtmmhobokbbcpbaaC1f
import Derived.Test.YtmmhobokbbcpbaaSame
import Derived.Test.YtmmhobokbbcpbaaMath2
namespace Go.Proofs.Ytmmhobokbbcpbaa
open Go.ChangeShapes Go.WideShapes Go.ChangeAt Go.RowKit

theorem drawBytesOf_any (A : Option Addr) (n c : Nat) (xs : List UInt8) (w : World) (h : Rd w w.heap.size A n (bv xs)) (hc : n ≤ c) :
    Calls Try.prog 13 #[.slice A n c] w fun e w' => ∃ v k : Int, e = .returned (.tuple #[.int .i64 v, .int .i64 k]) ∧ v ≤ 4294836225 ∧ Below w.heap.size w w' := by
  go_enter Try.func13, Try.ntmps13
  go_wp2_with fail
  refine (open_any A n c xs _ h hc).mono ?_
  rintro e w1 ⟨rfl, R1, b1⟩
  go_wp2_with fail
  refine (word_any _ _ _ _ R1 (by omega)).mono ?_
  rintro e w2 ⟨v, p2, rfl, v1, v2, hp2, R2, g2⟩
  have b2 := below_pick b1 g2 (Nat.le_refl _) b1.size
  go_wp2_with fail
  refine (pick_any _ _ _ 3 _ R2 (by omega)).mono ?_
  rintro e w3 ⟨r, rfl, r1, r2, -, R3, g3⟩
  have b3 := below_pick b2 g3 (Nat.le_refl _) b2.size
  clear r2
  by_cases h0 : r = 0
  · have t0 : (r == 0) = true := by simp [h0]
    clear h0
    go_wp2_with fail
    refine (word_any _ _ _ _ R3 (by omega)).mono ?_
    rintro e w4 ⟨u, p4, rfl, u1, u2, hp4, R4, g4⟩
    have b4 := below_pick b3 g4 (Nat.le_refl _) b3.size
    have hm1 : 0 ≤ v * u := Int.mul_nonneg v1 u1
    have hm2 : v * u ≤ 65535 * 65535 := Int.mul_le_mul v2 u2 u1 (by omega)
    go_wp2_with fail
    refine (pick_any _ _ _ 2 _ R4 (by omega)).mono ?_
    rintro e w5 ⟨s, rfl, s1, s2, -, R5, g5⟩
    have s2' := s2 (by omega)
    clear s2
    have b5 := below_pick b4 g5 (Nat.le_refl _) b4.size
    go_wp2_with fail
    refine (pick_any _ _ _ 6 _ R5 (by omega)).mono ?_
    rintro e w6 ⟨k, rfl, k1, k2, -, R6, g6⟩
    have b6 := below_pick b5 g6 (Nat.le_refl _) b5.size
    go_wp2
    go_ret2
    exact ⟨v * u - s, k, rfl, by omega, b6⟩
  · have t0 : (r == 0) = false := by simp; omega
    clear h0
    go_wp2_with fail
    refine (pick_any _ _ _ 6 _ R3 (by omega)).mono ?_
    rintro e w6 ⟨k, rfl, k1, k2, -, R6, g6⟩
    have b6 := below_pick b3 g6 (Nat.le_refl _) b3.size
    go_wp2
    go_ret2
    exact ⟨v, k, rfl, by omega, b6⟩

theorem walk_BytesOf (A : Option Addr) (n c : Nat) (xs : List UInt8) (w : World) (h : Rd w w.heap.size A n (bv xs)) (hc : n ≤ c) :
    Calls Try.prog 3 #[.slice A n c] w fun e w' => e = .returned (.bool true) ∧ Below w.heap.size w w' := by
  by_cases hbig : 1048576 < n
  · go_enter Try.func3, Try.ntmps3
    go_wp2
    go_ret
    exact ⟨rfl, Below.refl _ _⟩
  go_enter Try.func3, Try.ntmps3
  go_wp2_with fail
  refine (drawBytesOf_any A n c xs _ h hc).mono ?_
  rintro e w1 ⟨v, k, rfl, hv, b1⟩
  clear h
  have hl := bytesOf_len v k
  obtain ⟨ys, hys⟩ : ∃ ys, ys = bytesOf v k := ⟨_, rfl⟩
  rw [← hys] at hl
  have HY := Lib.hid hys
  clear hys
  have hr : (ys == ys) = true := by simp
  go_wp2_with fail
  refine (bytesOf_impl v k _ (by omega)).mono ?_
  rw [← HY.out]
  rintro e w2 ⟨A2, n2, c2, rfl, o2, b2⟩
  have l2 : n2 ≤ 4 := by have := own_len o2; omega
  have r2 := Rd.of_own o2
  have bb2 := b1.trans (b2.mono b1.size)
  go_wp2_with fail
  refine (bytesOfS_any v k _).mono ?_
  rw [← HY.out]
  rintro e w3 ⟨A3, n3, c3, rfl, o3, b3⟩
  have r3 := Rd.of_own o3
  have bb3 := bb2.trans (b3.mono bb2.size)
  have r23 := (r2.below b3).up b3.size
  go_wp2_with fail
  refine (sameBytes_any _ _ _ _ _ _ _ ys ys _ r23 r3).mono ?_
  rintro e w3' ⟨rfl, rfl⟩
  by_cases h0 : n2 = 0
  · have t0 : ((n2 : Int) == 0) = true := by simp [h0]
    clear h0
    go_wp2_with fail
    refine (alive_any _).mono ?_
    rintro e w4 ⟨rfl, b4⟩
    go_wp2
    go_ret
    exact ⟨rfl, bb3.trans (b4.mono bb3.size)⟩
  · have t0 : ((n2 : Int) == 0) = false := by simp; omega
    have hne : (bytesOf v k).length ≠ 0 := by rw [← HY.out]; have := own_len o2; omega
    have m1 := (numAt_bytesOf [] v k hne).1
    have m2 := (numAt_bytesOf [7, 9] v k hne)
    rw [← HY.out] at m1 m2
    have t1 : ((n2 : Int) == k) = true := by have := own_len o2; have := m2.2; simp; omega
    have M1 := Lib.hid m1
    have M2 := Lib.hid m2.1
    clear h0 hne m1 m2
    go_wp2_with fail
    refine (numberAt_any _ _ _ _ ys 0 k _ r23 (by omega)).mono ?_
    rintro e w3' ⟨rfl, rfl⟩
    have M1' : numAt ys 0 k = v := M1.out
    rw [M1']
    have t2 : (v == v) = true := by simp
    clear M1'
    go_wp2_with (at_builtin; refine app_slice rfl _ _ rfl (own_lit w3 w3.heap.size 2 [7, 9] _ rfl rfl (by omega) (Nat.le_refl _) rfl) rfl rfl ((r23.below ((Below.refl _ _).alloc (Nat.le_refl _) _))) (by omega) (by simp) ?_; intro v' w4 o4 g4)
    obtain ⟨A4, c4, rfl⟩ := own_shape o4
    have b4 : Below w3.heap.size w3 w4 := ((Below.refl _ _).alloc (Nat.le_refl _) _).grown g4 (by simp) (by intro i hi; simp [Value.ownBlock] at hi; omega)
    have bb4 := bb3.trans (b4.mono bb3.size)
    have r4 := Rd.of_own o4
    go_wp2_with fail
    refine (numberAt_any _ _ _ _ _ 2 k _ r4 (by omega)).mono ?_
    rintro e w3' ⟨rfl, rfl⟩
    have M2' : numAt ([7, 9] ++ ys) 2 k = v := M2.out
    rw [M2']
    clear M2'
    go_wp2
    go_ret
    exact ⟨rfl, bb4⟩
end Go.Proofs.Ytmmhobokbbcpbaa
