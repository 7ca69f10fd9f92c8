import Derived.Test.YtmmhobokbbcpbaaP1
import Derived.Deep.RegionWith
import Derived.Deep.RegionHeld3
import Derived.Deep.DrawnRows
namespace Go.Proofs.Ytmmhobokbbcpbaa
open Go.ChangeShapes Go.WideShapes Go.ChangeAt Go.RowKit

attribute [local go_sem ↓] Go.wp_at_zero Go.wp_at_succ
theorem drawNumberAt_any (A : Option Addr) (n c : Nat) (xs : List UInt8) (w : World) (h : Rd w w.heap.size A n (bv xs)) (hc : n ≤ c) :
    Calls Try.prog 19 #[.slice A n c] w fun e w' => ∃ A' m c' ys, ∃ p k : Int, e = .returned (.tuple #[.slice A' m c', .int .i64 p, .int .i64 k]) ∧ w'.ownsRow w.heap.size 5 1 (.slice A' m c') m (bv ys) ∧ m ≤ 8 ∧ Below w.heap.size w w' := by
  go_enter Try.func19, Try.ntmps19
  go_wp2_with fail
  refine (open_any A n c xs _ h hc).mono ?_
  rintro e w1 ⟨rfl, R1, b1⟩
  go_wp2_with fail
  refine (pick_any _ _ _ 9 _ R1 (by omega)).mono ?_
  rintro e w2 ⟨r, rfl, r1, r2, -, R2, g2⟩
  have b2 := below_pick b1 g2 (Nat.le_refl _) b1.size
  have r2' := r2 (by omega)
  clear r2
  obtain ⟨m, rfl⟩ := Int.eq_ofNat_of_zero_le r1
  go_wp2_with fail
  refine (bytes_any _ _ _ m _ R2 (by omega) (by omega)).mono ?_
  rintro e w3 ⟨A3, c3, ys, p3, rfl, o3, R3, hp3, g3⟩
  have b3 := below_pick b2 g3 (Nat.le_refl _) b2.size
  go_wp2_with fail
  refine (pick_any _ _ _ 9 _ R3 (by omega)).mono ?_
  rintro e w4 ⟨s, rfl, s1, s2, -, R4, g4⟩
  have s2' := s2 (by omega)
  clear s2
  have b4 := below_pick b3 g4 (Nat.le_refl _) b3.size
  have o4 := own_pick o3 R3 g4
  go_wp2_with fail
  refine (pick_any _ _ _ 6 _ R4 (by omega)).mono ?_
  rintro e w5 ⟨k, rfl, k1, k2, -, R5, g5⟩
  have b5 := below_pick b4 g5 (Nat.le_refl _) b4.size
  have o5 := own_pick o4 R4 g5
  go_wp2
  go_ret3
  exact ⟨A3, m, c3, ys, s - 1, k, rfl, own_base o5 b2.size, by omega, b5⟩

theorem walk_NumberAt (A : Option Addr) (n c : Nat) (xs : List UInt8) (w : World) (h : Rd w w.heap.size A n (bv xs)) (hc : n ≤ c) :
    Calls Try.prog 4 #[.slice A n c] w fun e w' => e = .returned (.bool true) ∧ Below w.heap.size w w' := by
  by_cases hbig : 1048576 < n
  · go_enter Try.func4, Try.ntmps4
    go_wp2
    go_ret
    exact ⟨rfl, Below.refl _ _⟩
  go_enter Try.func4, Try.ntmps4
  go_wp2_with fail
  refine (drawNumberAt_any A n c xs _ h hc).mono ?_
  rintro e w1 ⟨A1, m, c1, ys, p, k, rfl, o1, hm, b1⟩
  clear h
  have r1 := Rd.of_own o1
  obtain ⟨v, hv⟩ : ∃ v, v = numAt ys p k := ⟨_, rfl⟩
  have HV := Lib.hid hv
  clear hv
  have t0 : (v != v) = false := by simp
  go_wp2_with fail
  refine (numberAt_any _ _ _ _ ys p k _ r1 (by omega)).mono ?_
  rw [← HV.out]
  rintro e w1' ⟨rfl, rfl⟩
  go_wp2_with fail
  refine (numberAtS_any _ _ _ _ ys p k _ r1 (by omega)).mono ?_
  rw [← HV.out]
  rintro e w1' ⟨rfl, rfl⟩
  by_cases h0 : v < 0
  · have hv1 : v = -1 := by rw [HV.out] at h0 ⊢; exact numAt_neg _ _ _ h0
    subst hv1
    go_wp2_with fail
    refine (alive_any _).mono ?_
    rintro e w4 ⟨rfl, b4⟩
    go_wp2
    go_ret
    exact ⟨rfl, b1.trans (b4.mono b1.size)⟩
  · obtain ⟨k1, k2, p1, p2, hb⟩ := bytesOf_numAt ys p k (by rw [← HV.out]; omega)
    rw [← HV.out] at hb
    have hl := bytesOf_len v k
    have hv2 : v ≤ 9223372036854775807 := by
      rw [HV.out]; unfold numAt
      split
      · have := (numV_bd ys p.toNat k.toNat).2
        have : (256 : Int) ^ k.toNat ≤ 256 ^ 4 := by
          have := Nat.pow_le_pow_right (n := 256) (by omega) (show k.toNat ≤ 4 by omega)
          have e1 : ((256 ^ k.toNat : Nat) : Int) = (256 : Int) ^ k.toNat := by simp
          have e2 : ((256 ^ 4 : Nat) : Int) = (256 : Int) ^ 4 := by simp
          omega
        omega
      · omega
    have hml := Lib.hid (own_len o1)
    obtain ⟨q, rfl⟩ := Int.eq_ofNat_of_zero_le p1
    obtain ⟨j, rfl⟩ := Int.eq_ofNat_of_zero_le (show 0 ≤ k by omega)
    have hmc := own_cap o1
    have hqm : q + j ≤ m := by have := hml.out; omega
    obtain ⟨b, off, hA, hbB, hcell⟩ := r1.cells (by omega)
    subst hA
    have i1 : (0 : Int) ≤ (q : Int) := by omega
    have i2 : (q : Int) ≤ (q : Int) + (j : Int) := by omega
    have i3 : (q : Int) + (j : Int) ≤ (c1 : Int) := by omega
    have i4 : IntKind.i64.wrap ((q : Int) + (j : Int)) = (q : Int) + (j : Int) := IntWalk.i64_in _ (by omega)
    have hz : bytesOf v j = (ys.drop q).take j := by rw [hb]; simp
    obtain ⟨zs, hzs⟩ : ∃ zs, zs = bytesOf v j := ⟨_, rfl⟩
    have rc : Rd w1 w1.heap.size (some ⟨b, off + q, none⟩) (((q : Int) + (j : Int)).toNat - q) (bv zs) := by
      rw [hzs, hz]
      have e : ((q : Int) + (j : Int)).toNat - q = j := by omega
      rw [e]
      exact rd_cut r1 hqm
    have hci : ∀ w, Calls Try.prog 14 #[.int .i64 v, .int .i64 (j : Int)] w (RetB w.heap.size zs w) := by
      intro w; rw [hzs]; exact bytesOf_impl v j w hv2
    have CI := Lib.hid hci
    have t1 : (zs == zs) = true := by simp
    clear hci hzs hz hb hl hcell r1 o1
    go_wp2_with fail
    go_region_with (first | (go_at_call 14; refine (CI.out _).mono ?_; rintro e w2 ⟨A2, n2, c2, rfl, o2, b2⟩; have r2 := Rd.of_own o2; have b2' := undrew b2; have rc2 := (rc.below b2').up b2'.size; have bb2 := b1.trans (b2'.mono b1.size)) | (go_at_call 15; refine (sameBytes_any _ _ _ _ _ _ _ zs zs _ r2 rc2).mono ?_; rintro e w3 ⟨rfl, rfl⟩))
    all_goals
      go_wp2
      go_ret
      exact ⟨rfl, by assumption⟩
end Go.Proofs.Ytmmhobokbbcpbaa
