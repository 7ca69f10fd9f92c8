import Derived.Test.YtnnpijjdjdnffaaC2a
import Derived.Test.YtnnpijjdjdnffaaFr
import Derived.Test.YtnnpijjdjdnffaaMem3
namespace Go.Proofs.Ytnnpijjdjdnffaa
open Go.ChangeShapes Go.WideShapes Go.ChangeAt Go.RowKit

def frBytes (t f k : Int) (xs : List UInt8) : List UInt8 := if frOk t f k xs.length then frHead t f k xs ++ bytesOf (sumOf (frHead t f k xs)) 2 else []
theorem frBytes_no {t f k : Int} {xs : List UInt8} (h : frOk t f k xs.length = false) : frBytes t f k xs = [] := by simp [frBytes, h]
theorem frBytes_yes {t f k : Int} {xs : List UInt8} (h : frOk t f k xs.length = true) : frBytes t f k xs = frHead t f k xs ++ bytesOf (sumOf (frHead t f k xs)) 2 := by simp [frBytes, h]

theorem RetB.nil {B : Nat} {w w' : World} (h : Below B w w') (c : Nat) (hc : c = 0) : RetB B [] w (.returned (.slice none 0 c)) w' := by
  subst hc
  exact ⟨none, 0, 0, rfl, World.ownsRow_nil _ _ _ _, h⟩

set_option maxHeartbeats 400000 in
theorem frameBytes_impl (t f k : Int) (A : Option Addr) (n c B : Nat) (xs : List UInt8) (w : World) (h : Rd w B A n (bv xs)) (hB : B ≤ w.heap.size) (hn : n ≤ 140737488355328) :
    Calls Try.prog 16 #[.agg #[.int .i64 t, .int .i64 f, .int .i64 k, .slice A n c]] w (RetB w.heap.size (frBytes t f k xs) w) := by
  obtain ⟨i0, hi, hz0, hz1, hz2⟩ := info_parts Try.info5
  have hl := rd_len h
  subst hl
  rcases ho : frOk t f k xs.length with _ | _
  · have HR := Lib.hid (frBytes_no ho)
    clear h
    go_enter Try.func16, Try.ntmps16
    go_wp2_with fail
    refine (frameOk_impl t f k A xs.length c _ hn).mono ?_
    rintro e w1 ⟨rfl, b1⟩
    go_wp2
    go_ret
    rw [HR.out]
    exact RetB.nil (((Below.refl _ _).alloc (Nat.le_refl _) _).trans (b1.mono (by simp))) _ rfl
  · have HR := Lib.hid (frBytes_yes ho)
    obtain ⟨⟨t1, t2⟩, ⟨f1, f2⟩, ⟨k1, k2⟩, hn64⟩ := frOk_iff.1 ho
    have hsb := sumOf_bd (frHead t f k xs)
    go_enter Try.func16, Try.ntmps16
    go_wp2_with fail
    refine (frameOk_impl t f k A xs.length c _ hn).mono ?_
    rintro e w1 ⟨rfl, b1⟩
    have h1 := (h.below ((Below.refl B w).alloc hB _)).below (b1.mono (by simp; omega))
    have hh := (b1.block w.heap.size (by simp)).trans (heap_alloc_new w _)
    have z1 := b1.size
    obtain ⟨q0, q1, q2, q3⟩ := cells4 hh
    simp at z1
    have HH := Lib.hid hh
    clear hh
    have HD : Hid (frHead t f k xs = [u8 t, u8 f, u8 k, u8 (xs.length : Nat)] ++ xs) := Lib.hid rfl
    have HL : Hid (#[Value.int .u8 t, .int .u8 f, .int .u8 k, .int .u8 (xs.length : Nat)].toList = bv [u8 t, u8 f, u8 k, u8 (xs.length : Nat)]) := Lib.hid (by
      simp [bv, bval, u8_int t1 t2, u8_int f1 (show f ≤ 255 by omega), u8_int k1 k2, u8_int (z := (xs.length : Nat)) (by omega) (by omega)])
    obtain ⟨hd, hhd⟩ : ∃ hd, hd = frHead t f k xs := ⟨_, rfl⟩
    rw [← hhd] at hsb
    have HH0 := Lib.hid hhd
    clear hhd
    obtain ⟨s1, s2⟩ := hsb
    go_wp2_with (first
      | (at_make; refine wpList_make_own _ rfl _ _ 22 rfl w1.heap.size 5 i0 (.int .u8 0) 1 Try.underlying22 hi hz0 hz1 .i64 .i64 _ (xs.length + 6) rfl rfl (by omega) (by rw [hz2]; omega) (by unfold maxLen; omega) (Nat.le_refl _) ?_; intro w2 o2 g2; have b2 := (Below.refl w1.heap.size w1).grown g2 (Nat.le_refl _) (by simp); have hh2 := (b2.block w.heap.size (by omega)).trans HH.out; clear q0 q1 q2 q3; obtain ⟨q0, q1, q2, q3⟩ := cells4 hh2; have h2 := h1.below (b2.mono (by omega)); have HH2 := Lib.hid hh2; clear hh2; have o2' : w2.ownsRow w1.heap.size 5 1 (.slice (some ⟨w1.heap.size, 0, none⟩) 0 (xs.length + 6)) 0 (bv []) := o2; clear o2; have z2 := b2.size)
      | (at_builtin; refine app_on rfl _ _ rfl (o2'.alloc _) (W0 := w1) (b2.alloc (by omega) _) rfl rfl (Rd.of_own (own_lit w2 w2.heap.size 4 [u8 t, u8 f, u8 k, u8 (xs.length : Nat)] _ HL.out rfl (by omega) (Nat.le_refl _) rfl)) (by omega) (Nat.le_refl _) (by simp; omega) ?_; intro A3 c3 w3 o3 b3; clear o2'; rw [Nat.zero_add] at o3 ⊢; rw [List.nil_append] at o3; have hh3 := (b3.block w.heap.size (by omega)).trans HH.out; clear q0 q1 q2 q3; obtain ⟨q0, q1, q2, q3⟩ := cells4 hh3; have h3 := h1.below (b3.mono (by omega)); have HH3 := Lib.hid hh3; clear hh3; have z3 := b3.size)
      | (at_builtin; refine app_on rfl _ _ rfl o3 (W0 := w1) b3 rfl rfl h3 (by omega) (Nat.le_refl _) (by omega) ?_; intro A4 c4 w4 o4 b4; clear o3; have z4 := b4.size; rw [← HD.out, ← HH0.out] at o4; have r4 := Rd.of_own o4)
      | (go_at_call 53; refine (sumOf_impl _ _ _ _ hd _ r4 (by omega)).mono ?_; rintro e w' ⟨rfl, rfl⟩)
      | (go_at_call 52; go_loud (refine (bytesOf_impl (sumOf hd) 2 _ (by omega)).mono ?_; rintro e w5 ⟨A5, n5, c5, rfl, o5, b5⟩; have n5' : n5 ≤ 4 := (by have := own_len o5; have := bytesOf_len (sumOf hd) 2; omega); have r5 := Rd.of_own o5; have o45 := own_below o4 b5 (Nat.le_refl _); have bb5 := b4.trans (b5.mono z4); have z5 := b5.size; clear o4 o5))
      | (at_builtin; refine app_on rfl _ _ rfl o45 (W0 := w1) bb5 rfl rfl r5 (by omega) (Nat.le_refl _) (by omega) ?_; intro A6 c6 w6 o6 b6; clear o45))
    go_ret
    rw [HR.out, ← HH0.out]
    exact RetB.of_own (own_base o6 (by omega)) ((((Below.refl _ _).alloc (Nat.le_refl _) _).trans (b1.mono (by simp))).trans (b6.mono (by omega)))
end Go.Proofs.Ytnnpijjdjdnffaa
