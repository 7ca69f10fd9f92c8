import Derived.Test.YtmmhobokbbcpbaaP1
import Derived.Test.YtmmhobokbbcpbaaMath3
namespace Go.Proofs.Ytmmhobokbbcpbaa
open Go.ChangeShapes Go.WideShapes Go.ChangeAt Go.RowKit

set_option maxHeartbeats 400000 in
theorem drawSumFits_any (A : Option Addr) (n c : Nat) (xs : List UInt8) (w : World) (h : Rd w w.heap.size A n (bv xs)) (hc : n ≤ c) :
    Calls Try.prog 24 #[.slice A n c] w fun e w' => ∃ A' m c' ys, ∃ s : Int, e = .returned (.tuple #[.slice A' m c', .int .i64 s]) ∧ w'.ownsRow w.heap.size 5 1 (.slice A' m c') m (bv ys) ∧ m ≤ 7 ∧ Below w.heap.size w w' := by
  go_enter Try.func24, Try.ntmps24
  go_wp2_with fail
  refine (open_any A n c xs _ h hc).mono ?_
  rintro e w1 ⟨rfl, R1, b1⟩
  go_wp2_with fail
  refine (pick_any _ _ _ 8 _ R1 (by omega)).mono ?_
  rintro e w2 ⟨r, rfl, r1, r2, -, R2, g2⟩
  have b2 := below_pick b1 g2 (Nat.le_refl _) b1.size
  have r2' := r2 (by omega)
  clear r2
  obtain ⟨m, rfl⟩ := Int.eq_ofNat_of_zero_le r1
  go_wp2_with fail
  refine (bytes_any _ _ _ m _ R2 (by omega) (by omega)).mono ?_
  rintro e w3 ⟨A3, c3, ys, p3, rfl, o3, R3, hp3, g3⟩
  have b3 := below_pick b2 g3 (Nat.le_refl _) b2.size
  go_wp2_with fail
  refine (pick_any _ _ _ 3 _ R3 (by omega)).mono ?_
  rintro e w4 ⟨s, rfl, s1, s2, -, R4, g4⟩
  have s2' := s2 (by omega)
  clear s2
  have b4 := below_pick b3 g4 (Nat.le_refl _) b3.size
  have o4 := own_pick o3 R3 g4
  by_cases h0 : 0 < s
  · have hb := sumOf_bd ys
    obtain ⟨u, hu⟩ : ∃ u, u = sumOf ys := ⟨_, rfl⟩
    rw [← hu] at hb
    have HU := Lib.hid hu
    clear hu
    have r4 := Rd.of_own o4
    go_wp2_with fail
    refine (sumOf_spec _ _ _ _ ys _ r4 (by omega)).mono ?_
    rw [← HU.out]
    rintro e w4' ⟨rfl, rfl⟩
    go_wp2_with fail
    refine (pick_any _ _ _ 8 _ R4 (by omega)).mono ?_
    rintro e w5 ⟨k, rfl, k1, k2, -, R5, g5⟩
    have k2' := k2 (by omega)
    clear k2
    have b5 := below_pick b4 g5 (Nat.le_refl _) b4.size
    have o5 := own_pick o4 R4 g5
    go_wp2
    go_ret2
    exact ⟨A3, m, c3, ys, _, rfl, own_base o5 b2.size, by omega, b5⟩
  · go_wp2_with fail
    refine (word_any _ _ _ _ R4 (by omega)).mono ?_
    rintro e w5 ⟨v, p5, rfl, v1, v2, hp5, R5, g5⟩
    have b5 := below_pick b4 g5 (Nat.le_refl _) b4.size
    have o5 := own_pick o4 R4 g5
    go_wp2_with fail
    refine (pick_any _ _ _ 8 _ R5 (by omega)).mono ?_
    rintro e w6 ⟨k, rfl, k1, k2, -, R6, g6⟩
    have k2' := k2 (by omega)
    clear k2
    have b6 := below_pick b5 g6 (Nat.le_refl _) b5.size
    have o6 := own_pick o5 R5 g6
    go_wp2
    go_ret2
    exact ⟨A3, m, c3, ys, _, rfl, own_base o6 b2.size, by omega, b6⟩

set_option maxHeartbeats 400000 in
theorem walk_SumFits (A : Option Addr) (n c : Nat) (xs : List UInt8) (w : World) (h : Rd w w.heap.size A n (bv xs)) (hc : n ≤ c) :
    Calls Try.prog 6 #[.slice A n c] w fun e w' => e = .returned (.bool true) ∧ Below w.heap.size w w' := by
  by_cases hbig : 1048576 < n
  · go_enter Try.func6, Try.ntmps6
    go_wp2
    go_ret
    exact ⟨rfl, Below.refl _ _⟩
  go_enter Try.func6, Try.ntmps6
  go_wp2_with fail
  refine (drawSumFits_any A n c xs _ h hc).mono ?_
  rintro e w1 ⟨A1, m, c1, ys, s, rfl, o1, hm, b1⟩
  clear h
  have r1 := Rd.of_own o1
  have hml := Lib.hid (own_len o1)
  obtain ⟨f, hf⟩ : ∃ f, f = fits ys s := ⟨_, rfl⟩
  have HF := Lib.hid hf
  clear hf o1
  have t0 : (f != f) = false := by simp
  go_wp2_with fail
  refine (sumFits_impl _ _ _ _ ys _ _ r1 (by omega)).mono ?_
  rw [← HF.out]
  rintro e w1' ⟨rfl, rfl⟩
  go_wp2_with fail
  refine (sumFits_spec _ _ _ _ ys _ _ r1 (by omega)).mono ?_
  rw [← HF.out]
  rintro e w1' ⟨rfl, rfl⟩
  by_cases h0 : s < 0
  · have hff : f = false := by rw [HF.out]; unfold fits; simp; omega
    subst hff
    have i1 : ¬ 0 ≤ s := by omega
    go_wp2_with fail
    refine (alive_any _).mono ?_
    rintro e w2 ⟨rfl, b2⟩
    go_wp2
    go_ret
    exact ⟨rfl, b1.trans (b2.mono b1.size)⟩
  by_cases h1 : 65535 < s
  · have hff : f = false := by rw [HF.out]; unfold fits; simp; omega
    subst hff
    go_wp2_with fail
    refine (alive_any _).mono ?_
    rintro e w2 ⟨rfl, b2⟩
    go_wp2
    go_ret
    exact ⟨rfl, b1.trans (b2.mono b1.size)⟩
  by_cases h2 : m % 2 = 1
  · have i1 : ((m : Int) % 2 == 1) = true := by simp; omega
    have i2 : 0 ≤ s := by omega
    have i3 : s ≤ 65535 := by omega
    clear h2
    go_wp2_with fail
    refine (alive_any _).mono ?_
    rintro e w2 ⟨rfl, b2⟩
    go_wp2
    go_ret
    exact ⟨rfl, b1.trans (b2.mono b1.size)⟩
  have i1 : ((m : Int) % 2 == 1) = false := by simp; omega
  have hself := sum_self ys (by have := hml.out; omega) s (by omega) (by omega)
  have hfz : f = (sumOf (ys ++ bytesOf s 2) % 65535 == 0) := by
    rw [HF.out, Bool.eq_iff_iff, beq_iff_eq, hself]
    unfold fits
    simp
    omega
  have hl := bytesOf_len s 2
  obtain ⟨bs, hbs⟩ : ∃ bs, bs = bytesOf s 2 := ⟨_, rfl⟩
  rw [← hbs] at hl hfz
  have hcs : ∀ w, Calls Try.prog 14 #[.int .i64 s, .int .i64 2] w (RetB w.heap.size bs w) := by
    intro w; rw [hbs]; exact bytesOf_impl s 2 w (by omega)
  have CS := Lib.hid hcs
  obtain ⟨zs, hzs⟩ : ∃ zs, zs = ys ++ bs := ⟨_, rfl⟩
  rw [← hzs] at hfz
  have HZ := Lib.hid hzs
  have hsb := sumOf_bd zs
  obtain ⟨u, hu⟩ : ∃ u, u = sumOf zs := ⟨_, rfl⟩
  rw [← hu] at hsb hfz
  have HU := Lib.hid hu
  have hfe : (f == (u % 65535 == 0)) = true := by rw [hfz]; simp
  clear hcs hbs hzs hu hself hfz h2
  go_wp2_with (at_builtin; refine app_new rfl _ _ rfl rfl rfl rfl r1 (by omega) (Nat.le_refl _) ?_; intro A2 c2 w2 o2 b2)
  refine (CS.out _).mono ?_
  rintro e w3 ⟨A3, n3, c3, rfl, o3, b3⟩
  have l3 : n3 ≤ 4 := by have := own_len o3; omega
  have bw3 := b2.trans (b3.mono b2.size)
  have o23 := own_below o2 b3 (Nat.le_refl _)
  have r3 := Rd.of_own o3
  have s3 := bw3.size
  go_wp2_with (at_builtin; refine app_on rfl _ _ rfl o23 (W0 := w1) bw3 rfl rfl r3 (by omega) (Nat.le_refl _) s3 ?_; intro A4 c4 w4 o4 b4; clear o23)
  have hz : ys ++ bs = zs := HZ.out.symm
  rw [hz] at o4
  have r4 := Rd.of_own o4
  have bb4 := b1.trans (b4.mono b1.size)
  refine (sumOf_impl _ _ _ _ zs _ r4 (by omega)).mono ?_
  rw [← HU.out]
  rintro e w4' ⟨rfl, rfl⟩
  go_wp2_with fail
  refine (alive_any _).mono ?_
  rintro e w5 ⟨rfl, b5⟩
  go_wp2
  go_ret
  exact ⟨rfl, bb4.trans (b5.mono bb4.size)⟩
end Go.Proofs.Ytmmhobokbbcpbaa
