import Derived.Test.YtnnpijjdjdnffaaC2b
namespace Go.Proofs.Ytnnpijjdjdnffaa
open Go.ChangeShapes Go.WideShapes Go.ChangeAt Go.RowKit

theorem RetB.empty {B : Nat} {w w' : World} (h : Below B w w') (hB : B ≤ w'.heap.size) : RetB B [] w (.returned (.slice (some ⟨w'.heap.size, 0, none⟩) 0 0)) (w'.alloc (.cells #[] 5)) :=
  ⟨_, 0, 0, rfl, own_empty w' B hB, h.alloc hB _⟩

set_option maxHeartbeats 400000 in
theorem frameBytes_spec (t f k : Int) (A : Option Addr) (n c B : Nat) (xs : List UInt8) (w : World) (h : Rd w B A n (bv xs)) (hB : B ≤ w.heap.size) (hn : n ≤ 140737488355328) :
    Calls Try.prog 18 #[.agg #[.int .i64 t, .int .i64 f, .int .i64 k, .slice A n c]] w (RetB w.heap.size (frBytes t f k xs) w) := by
  have hl := rd_len h
  subst hl
  rcases ho : frOk t f k xs.length with _ | _
  · have HR := Lib.hid (frBytes_no ho)
    clear h
    go_enter Try.func18, Try.ntmps18
    go_wp2_with fail
    refine (frameOk_spec t f k A xs.length c _ hn).mono ?_
    rintro e w1 ⟨rfl, b1⟩
    have z1 := b1.size
    simp at z1
    go_wp2
    go_ret
    rw [HR.out]
    exact RetB.empty (((Below.refl _ _).alloc (Nat.le_refl _) _).trans (b1.mono (by simp))) (by omega)
  · have HR := Lib.hid (frBytes_yes ho)
    obtain ⟨⟨t1, t2⟩, ⟨f1, f2⟩, ⟨k1, k2⟩, hn64⟩ := frOk_iff.1 ho
    have hsb := sumOf_bd (frHead t f k xs)
    go_enter Try.func18, Try.ntmps18
    go_wp2_with fail
    refine (frameOk_spec t f k A xs.length c _ hn).mono ?_
    rintro e w1 ⟨rfl, b1⟩
    have h1 := (h.below ((Below.refl B w).alloc hB _)).below (b1.mono (by simp; omega))
    have hh := (b1.block w.heap.size (by simp)).trans (heap_alloc_new w _)
    have z1 := b1.size
    obtain ⟨q0, q1, q2, q3⟩ := cells4 hh
    simp at z1
    have z1' : w.heap.size < w1.heap.size := by omega
    have HH := Lib.hid hh
    clear hh
    have HD : Hid (frHead t f k xs = [u8 t, u8 f, u8 k, u8 (xs.length : Nat)] ++ xs) := Lib.hid rfl
    have HL : Hid (#[Value.int .u8 t, .int .u8 f, .int .u8 k, .int .u8 (xs.length : Nat)].toList = bv [u8 t, u8 f, u8 k, u8 (xs.length : Nat)]) := Lib.hid (by
      simp [bv, bval, u8_int t1 t2, u8_int f1 (show f ≤ 255 by omega), u8_int k1 k2, u8_int (z := (xs.length : Nat)) (by omega) (by omega)])
    obtain ⟨hd, hhd⟩ : ∃ hd, hd = frHead t f k xs := ⟨_, rfl⟩
    rw [← hhd] at hsb
    have HH0 := Lib.hid hhd
    clear hhd
    obtain ⟨s1, s2⟩ := hsb
    have tok := trivial
    go_wp2_with (first
      | (at_builtin; refine app_on rfl _ _ rfl (own_lit w1 w1.heap.size 4 [u8 t, u8 f, u8 k, u8 (xs.length : Nat)] _ HL.out rfl (by omega) (Nat.le_refl _) rfl) (W0 := w1) ((Below.refl w1.heap.size w1).alloc (Nat.le_refl _) _) rfl rfl (h1.below ((Below.refl _ _).alloc (by omega) _)) (by omega) (Nat.le_refl _) (by simp) ?_; intro A4 c4 w4 o4 b4; clear tok; have z4 := b4.size; rw [← HD.out, ← HH0.out] at o4; have r4 := Rd.of_own o4)
      | (go_at_call 56; refine (sumOf_spec _ _ _ _ hd _ r4 (by omega)).mono ?_; rintro e w' ⟨rfl, rfl⟩)
      | (go_at_call 55; refine (bytesOfS_any (sumOf hd) 2 _).mono ?_; rintro e w5 ⟨A5, n5, c5, rfl, o5, b5⟩; have n5' : n5 ≤ 4 := (by have := own_len o5; have := bytesOf_len (sumOf hd) 2; omega); have r5 := Rd.of_own o5; have o45 := own_below o4 b5 (Nat.le_refl _); have bb5 := b4.trans (b5.mono z4); have z5 := b5.size; clear o4 o5)
      | (at_builtin; refine app_on rfl _ _ rfl o45 (W0 := w1) bb5 rfl rfl r5 (by omega) (Nat.le_refl _) (by omega) ?_; intro A6 c6 w6 o6 b6; clear o45))
    go_ret
    rw [HR.out, ← HH0.out]
    exact RetB.of_own (own_base o6 (by omega)) ((((Below.refl _ _).alloc (Nat.le_refl _) _).trans (b1.mono (by simp))).trans (b6.mono (by omega)))
end Go.Proofs.Ytnnpijjdjdnffaa
