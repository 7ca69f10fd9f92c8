import Derived.Test.YtmmhobokbbcpbaaC1b
namespace Go.Proofs.Ytmmhobokbbcpbaa
open Go.ChangeShapes Go.WideShapes Go.ChangeAt Go.RowKit

def sNo (v : Int) : Bool := decide (v = 0 ∨ v = 65535)
theorem sNo_any (v : Int) (w : World) :
    Calls Try.prog 43 #[.int .i64 v] w fun e w' => e = .returned (.bool (sNo v)) ∧ w = w' := by
  by_cases h1 : v = 0
  · subst h1
    go_enter Try.func43, Try.ntmps43
    go_wp2
    go_ret
    exact ⟨rfl, rfl⟩
  · have t1 : (v == 0) = false := by simp; omega
    by_cases h2 : v = 65535
    · subst h2
      go_enter Try.func43, Try.ntmps43
      go_wp2
      go_ret
      exact ⟨rfl, rfl⟩
    · have t2 : (v == 65535) = false := by simp; omega
      have HR := Lib.hid (show sNo v = false by simp [sNo]; omega)
      clear h1 h2
      go_enter Try.func43, Try.ntmps43
      go_wp2
      go_ret
      exact ⟨ret_b HR.out.symm, rfl⟩

def fits (xs : List UInt8) (s : Int) : Bool := decide (0 ≤ s ∧ s ≤ 65535 ∧ s % 65535 = sumOf xs % 65535)

theorem sumFits_impl (A : Option Addr) (n c B : Nat) (xs : List UInt8) (s : Int) (w : World) (h : Rd w B A n (bv xs)) (hn : n ≤ 140737488355328) :
    Calls Try.prog 25 #[.slice A n c, .int .i64 s] w fun e w' => e = .returned (.bool (fits xs s)) ∧ w = w' := by
  have hb := sumOf_bd xs
  obtain ⟨o, ho⟩ : ∃ o, o = sumOf xs := ⟨_, rfl⟩
  have HO := Lib.hid ho
  have HF : Hid (fits xs s = decide (0 ≤ s ∧ s ≤ 65535 ∧ s % 65535 = o % 65535)) := Lib.hid (by unfold fits; rw [ho])
  rw [← ho] at hb
  clear ho
  by_cases h1 : o = s
  · subst h1
    have ht : (o == o) = true := by simp
    go_enter Try.func25, Try.ntmps25
    go_wp2_with fail
    refine (sumOf_impl _ _ _ _ xs _ h hn).mono ?_
    rw [← HO.out]
    rintro e w' ⟨rfl, rfl⟩
    go_wp2_with (go_at_call 43; refine (sNo_any _ _).mono ?_; rintro e w' ⟨rfl, rfl⟩)
    go_ret
    exact ⟨ret_b (by rw [HF.out]; simp; omega), rfl⟩
  · have ht : (o == s) = false := by simp; omega
    rcases h2 : sNo o with _ | _
    · have HR : Hid (fits xs s = false) := Lib.hid (by rw [HF.out]; simp [sNo] at h2 ⊢; omega)
      clear HF
      have H1 := Lib.hid h1
      clear h1
      go_enter Try.func25, Try.ntmps25
      go_wp2_with fail
      refine (sumOf_impl _ _ _ _ xs _ h hn).mono ?_
      rw [← HO.out]
      rintro e w' ⟨rfl, rfl⟩
      go_wp2_with (go_at_call 43; refine (sNo_any _ _).mono ?_; rintro e w' ⟨rfl, rfl⟩)
      go_ret
      exact ⟨ret_b HR.out.symm, rfl⟩
    · have HR : Hid (sNo s = fits xs s) := Lib.hid (by rw [HF.out]; unfold sNo at h2 ⊢; rw [decide_eq_true_iff] at h2; exact decide_eq_decide.2 (by omega))
      clear HF
      have H1 := Lib.hid h1
      clear h1
      go_enter Try.func25, Try.ntmps25
      go_wp2_with fail
      refine (sumOf_impl _ _ _ _ xs _ h hn).mono ?_
      rw [← HO.out]
      rintro e w' ⟨rfl, rfl⟩
      go_wp2_with (go_at_call 43; refine (sNo_any _ _).mono ?_; rintro e w' ⟨rfl, rfl⟩)
      go_ret
      exact ⟨ret_b HR.out, rfl⟩

theorem sumFits_spec (A : Option Addr) (n c B : Nat) (xs : List UInt8) (s : Int) (w : World) (h : Rd w B A n (bv xs)) (hn : n ≤ 140737488355328) :
    Calls Try.prog 26 #[.slice A n c, .int .i64 s] w fun e w' => e = .returned (.bool (fits xs s)) ∧ w = w' := by
  have hb := sumOf_bd xs
  obtain ⟨o, ho⟩ : ∃ o, o = sumOf xs := ⟨_, rfl⟩
  have HO := Lib.hid ho
  have HF : Hid (fits xs s = decide (0 ≤ s ∧ s ≤ 65535 ∧ s % 65535 = o % 65535)) := Lib.hid (by unfold fits; rw [ho])
  rw [← ho] at hb
  clear ho
  obtain ⟨hb1, hb2⟩ := hb
  rcases h2 : inB s 0 65535 with _ | _
  · go_enter Try.func26, Try.ntmps26
    go_wp2_with (go_at_call 38; refine (l1In_any _ _ _ _).mono ?_; rintro e w' ⟨rfl, rfl⟩)
    go_ret
    exact ⟨ret_b (by rw [HF.out]; have := inB_nif.1 h2; simp; omega), rfl⟩
  · obtain ⟨s1, s2⟩ := inB_iff.1 h2
    have HR : Hid ((s % 65535 == o % 65535) = fits xs s) := Lib.hid (by rw [HF.out, Bool.eq_iff_iff]; simp [s1, s2])
    clear HF
    go_enter Try.func26, Try.ntmps26
    go_wp2_with (first | (go_at_call 38; refine (l1In_any _ _ _ _).mono ?_; rintro e w' ⟨rfl, rfl⟩) | (go_at_call 23; refine (sumOf_spec _ _ _ _ xs _ h hn).mono ?_; rw [← HO.out]; rintro e w' ⟨rfl, rfl⟩))
    go_ret
    exact ⟨ret_b HR.out, rfl⟩
end Go.Proofs.Ytmmhobokbbcpbaa
