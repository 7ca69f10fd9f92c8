import Derived.Test.YtmmhobokbbcpbaaC1e
import Derived.Test.YtmmhobokbbcpbaaC1f
import Derived.Test.YtmmhobokbbcpbaaLw2
namespace Go.Proofs.Ytmmhobokbbcpbaa
open Go.ChangeShapes Go.WideShapes Go.ChangeAt Go.RowKit

theorem walk_ExactBytesOf (a b : Int) (w : World) (wa : (Lit.int .i64 a).wf = true) (_ : (Lit.int .i64 b).wf = true) :
    Calls Try.prog 8 #[.int .i64 a, .int .i64 b] w fun e w' => e = .returned (.bool true) ∧ Below w.heap.size w w' := by
  have hv : a ≤ 9223372036854775807 := by
    have : -9223372036854775808 ≤ a ∧ a ≤ 9223372036854775807 := by simpa [Lit.wf, IntKind.min, IntKind.max, IntKind.signed, IntKind.bits] using wa
    exact this.2
  have hl := bytesOf_len a b
  obtain ⟨xs, hxs⟩ : ∃ xs, xs = bytesOf a b := ⟨_, rfl⟩
  rw [← hxs] at hl
  have ci := fun w => bytesOf_impl a b w hv
  have cs := fun w => bytesOfS_any a b w
  simp only [← hxs] at ci cs
  have CI := Lib.hid ci
  have CS := Lib.hid cs
  clear ci cs hxs wa hv
  have hr : (xs == xs) = true := by simp
  go_enter Try.func8, Try.ntmps8
  go_wp2_with fail
  refine (CS.out _).mono ?_
  rintro e w1 ⟨A1, n1, c1, rfl, o1, b1⟩
  have l1 : n1 ≤ 4 := by have := own_len o1; omega
  have r1 := Rd.of_own o1
  have bb1 := b1
  go_wp2_with fail
  refine (CI.out _).mono ?_
  rintro e w2 ⟨A2, n2, c2, rfl, o2, b2⟩
  have l2 : n2 ≤ 4 := by have := own_len o2; omega
  have bb2 := bb1.trans (b2.mono b1.size)
  have r12 := r1.below b2
  have r2 := Rd.of_own o2
  go_wp2_with fail
  refine (eqByteS_any _ _ _ _ _ _ _ xs xs _ r2 (r12.up b2.size) (by omega) (by omega)).mono ?_
  rintro e w3 ⟨rfl, b3⟩
  have bb3 := bb2.trans (b3.mono (Nat.le_trans b1.size b2.size))
  have o3 := own_below o2 b3 (Nat.le_refl _)
  have r13 := r12.below (b3.mono b2.size)
  go_wp2_with fail
  refine (markByteS_any _ _ _ _ 1 xs _ o3 (by omega) (by omega)).mono ?_
  rintro e w4 ⟨rfl, o4, b4, g4⟩
  have bb4 := bb3.trans (b4.mono b1.size)
  have r14 := r13.below b4
  have hsz4 := b4.size
  have r4 := Rd.of_own o4
  go_wp2_with fail
  refine (heldByteS_any _ _ _ _ 1 _ r4 (by omega) (by omega)).mono ?_
  rintro e w4' ⟨rfl, rfl⟩
  have hp : ¬ ((1 + n2 : Nat) : Int) < 0 := by omega
  have hq : (((1 + n2 : Nat) : Int) != ((1 + n2 : Nat) : Int)) = false := by simp
  go_wp2_with fail
  refine (CI.out _).mono ?_
  rintro e w5 ⟨A5, n5, c5, rfl, o5, b5⟩
  have l5 : n5 ≤ 4 := by have := own_len o5; omega
  have bb5 := bb4.trans (b5.mono (Nat.le_trans (Nat.le_trans (Nat.le_trans b1.size b2.size) b3.size) hsz4))
  have r5 := Rd.of_own o5
  have r15 := r14.below (b5.mono (Nat.le_trans (Nat.le_trans b2.size b3.size) hsz4))
  have r45 := r4.below b5
  go_wp2_with fail
  refine (eqByteS_any _ _ _ _ _ _ _ xs xs _ r5 (r15.up (Nat.le_trans (Nat.le_trans (Nat.le_trans b2.size b3.size) hsz4) b5.size)) (by omega) (by omega)).mono ?_
  rintro e w6 ⟨rfl, b6⟩
  have bb6 := bb5.trans (b6.mono (Nat.le_trans (Nat.le_trans (Nat.le_trans (Nat.le_trans b1.size b2.size) b3.size) hsz4) b5.size))
  have r46 := r45.below (b6.mono b5.size)
  go_wp2_with fail
  refine (heldByteS_any _ _ _ _ 1 _ r46 (by omega) (by omega)).mono ?_
  rintro e w6' ⟨rfl, rfl⟩
  go_wp2
  go_ret
  exact ⟨rfl, bb6⟩
end Go.Proofs.Ytmmhobokbbcpbaa
