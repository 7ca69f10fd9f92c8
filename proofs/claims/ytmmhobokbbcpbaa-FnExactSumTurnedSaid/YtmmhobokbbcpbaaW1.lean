import Derived.Test.YtmmhobokbbcpbaaC1d
import Derived.Test.YtmmhobokbbcpbaaLw
namespace Go.Proofs.Ytmmhobokbbcpbaa
open Go.ChangeShapes Go.WideShapes Go.ChangeAt Go.RowKit

theorem walk_ExactSumOf (A : Option Addr) (n c : Nat) (xs : List UInt8) (w : World) (h : Rd w w.heap.size A n (bv xs)) (_ : n ≤ c) :
    Calls Try.prog 10 #[.slice A n c] w fun e w' => e = .returned (.bool true) ∧ Below w.heap.size w w' := by
  by_cases hbig : 1048576 < n
  · go_enter Try.func10, Try.ntmps10
    go_wp2
    go_ret
    exact ⟨rfl, Below.refl _ _⟩
  · have hn : n ≤ 140737488355328 := by omega
    have hq : (sumOf xs != sumOf xs) = false := by simp
    have hr : (xs == xs) = true := by simp
    go_enter Try.func10, Try.ntmps10
    go_wp2_with fail
    refine (toByteS_rd _ _ _ xs _ h hn).mono ?_
    rintro e w1 ⟨A1, c1, rfl, r1, b1⟩
    have h1 := (h.below b1).up b1.size
    go_wp2_with fail
    refine (sumOf_spec _ _ _ _ xs _ r1 hn).mono ?_
    rintro e w1' ⟨rfl, rfl⟩
    go_wp2_with fail
    refine (toByteS_rd _ _ _ xs _ h1 hn).mono ?_
    rintro e w2 ⟨A2, c2, rfl, r2, b2⟩
    have h2 := (h1.below b2).up b2.size
    go_wp2_with fail
    refine (sumOf_impl _ _ _ _ xs _ r2 hn).mono ?_
    rintro e w2' ⟨rfl, rfl⟩
    go_wp2_with fail
    refine (toByteS_rd _ _ _ xs _ h2 hn).mono ?_
    rintro e w3 ⟨A3, c3, rfl, r3, b3⟩
    have r23 := (r2.below b3).up b3.size
    go_wp2_with fail
    refine (eqByteS_any _ _ _ _ _ _ _ xs xs _ r23 r3 hn hn).mono ?_
    rintro e w4 ⟨rfl, b4⟩
    go_wp2
    go_ret
    exact ⟨rfl, ((b1.trans (b2.mono b1.size)).trans (b3.mono (Nat.le_trans b1.size b2.size))).trans (b4.mono (Nat.le_trans (Nat.le_trans b1.size b2.size) b3.size))⟩
theorem walk_ExactSumFits (A : Option Addr) (n c : Nat) (xs : List UInt8) (s : Int) (w : World) (h : Rd w w.heap.size A n (bv xs)) (_ : n ≤ c) (_ : (Lit.int .i64 s).wf = true) :
    Calls Try.prog 11 #[.slice A n c, .int .i64 s] w fun e w' => e = .returned (.bool true) ∧ Below w.heap.size w w' := by
  by_cases hbig : 1048576 < n
  · go_enter Try.func11, Try.ntmps11
    go_wp2
    go_ret
    exact ⟨rfl, Below.refl _ _⟩
  · have hn : n ≤ 140737488355328 := by omega
    have hq : (fits xs s != fits xs s) = false := by simp
    have hr : (xs == xs) = true := by simp
    go_enter Try.func11, Try.ntmps11
    go_wp2_with fail
    refine (toByteS_rd _ _ _ xs _ h hn).mono ?_
    rintro e w1 ⟨A1, c1, rfl, r1, b1⟩
    have h1 := (h.below b1).up b1.size
    go_wp2_with fail
    refine (sumFits_spec _ _ _ _ xs _ _ r1 hn).mono ?_
    rintro e w1' ⟨rfl, rfl⟩
    go_wp2_with fail
    refine (toByteS_rd _ _ _ xs _ h1 hn).mono ?_
    rintro e w2 ⟨A2, c2, rfl, r2, b2⟩
    have h2 := (h1.below b2).up b2.size
    go_wp2_with fail
    refine (sumFits_impl _ _ _ _ xs _ _ r2 hn).mono ?_
    rintro e w2' ⟨rfl, rfl⟩
    go_wp2_with fail
    refine (toByteS_rd _ _ _ xs _ h2 hn).mono ?_
    rintro e w3 ⟨A3, c3, rfl, r3, b3⟩
    have r23 := (r2.below b3).up b3.size
    go_wp2_with fail
    refine (eqByteS_any _ _ _ _ _ _ _ xs xs _ r23 r3 hn hn).mono ?_
    rintro e w4 ⟨rfl, b4⟩
    go_wp2
    go_ret
    exact ⟨rfl, ((b1.trans (b2.mono b1.size)).trans (b3.mono (Nat.le_trans b1.size b2.size))).trans (b4.mono (Nat.le_trans (Nat.le_trans b1.size b2.size) b3.size))⟩

theorem walk_ExactNumberAt (A : Option Addr) (n c : Nat) (xs : List UInt8) (p q : Int) (w : World) (h : Rd w w.heap.size A n (bv xs)) (_ : n ≤ c) (_ : (Lit.int .i64 p).wf = true) (_ : (Lit.int .i64 q).wf = true) :
    Calls Try.prog 9 #[.slice A n c, .int .i64 p, .int .i64 q] w fun e w' => e = .returned (.bool true) ∧ Below w.heap.size w w' := by
  by_cases hbig : 1048576 < n
  · go_enter Try.func9, Try.ntmps9
    go_wp2
    go_ret
    exact ⟨rfl, Below.refl _ _⟩
  · have hn : n ≤ 140737488355328 := by omega
    have hq : (numAt xs p q != numAt xs p q) = false := by simp
    have hr : (xs == xs) = true := by simp
    go_enter Try.func9, Try.ntmps9
    go_wp2_with fail
    refine (toByteS_rd _ _ _ xs _ h hn).mono ?_
    rintro e w1 ⟨A1, c1, rfl, r1, b1⟩
    have h1 := (h.below b1).up b1.size
    go_wp2_with fail
    refine (numberAtS_any _ _ _ _ xs _ _ _ r1 hn).mono ?_
    rintro e w1' ⟨rfl, rfl⟩
    go_wp2_with fail
    refine (toByteS_rd _ _ _ xs _ h1 hn).mono ?_
    rintro e w2 ⟨A2, c2, rfl, r2, b2⟩
    have h2 := (h1.below b2).up b2.size
    go_wp2_with fail
    refine (numberAt_any _ _ _ _ xs _ _ _ r2 hn).mono ?_
    rintro e w2' ⟨rfl, rfl⟩
    go_wp2_with fail
    refine (toByteS_rd _ _ _ xs _ h2 hn).mono ?_
    rintro e w3 ⟨A3, c3, rfl, r3, b3⟩
    have r23 := (r2.below b3).up b3.size
    go_wp2_with fail
    refine (eqByteS_any _ _ _ _ _ _ _ xs xs _ r23 r3 hn hn).mono ?_
    rintro e w4 ⟨rfl, b4⟩
    go_wp2
    go_ret
    exact ⟨rfl, ((b1.trans (b2.mono b1.size)).trans (b3.mono (Nat.le_trans b1.size b2.size))).trans (b4.mono (Nat.le_trans (Nat.le_trans b1.size b2.size) b3.size))⟩

theorem walk_ExactSumTurned (a b c : Int) (w : World) (_ : (Lit.int .i64 a).wf = true) (_ : (Lit.int .i64 b).wf = true) (_ : (Lit.int .i64 c).wf = true) :
    Calls Try.prog 12 #[.int .i64 a, .int .i64 b, .int .i64 c] w fun e w' => e = .returned (.bool true) ∧ Below w.heap.size w w' := by
  have hq : (sTurn a b c != sTurn a b c) = false := by simp
  go_enter Try.func12, Try.ntmps12
  go_wp2_with fail
  refine (sumTurned_spec _ _ _ _).mono ?_
  rintro e w' ⟨rfl, rfl⟩
  go_wp2_with fail
  refine (sumTurned_impl _ _ _ _).mono ?_
  rintro e w' ⟨rfl, rfl⟩
  go_wp2
  go_ret
  exact ⟨rfl, Below.refl _ _⟩
end Go.Proofs.Ytmmhobokbbcpbaa
