import Derived.Test.YtmmhobokbbcpbaaMem
import Derived.Test.YtmmhobokbbcpbaaNum
import Derived.Outline
import Derived.BigQuiet
import Derived.Deep.QuietTactic
namespace Go.Proofs.Ytmmhobokbbcpbaa
open Go.ChangeShapes Go.WideShapes Go.ChangeAt Go.RowKit

def inB (n lo hi : Int) : Bool := decide (lo ≤ n ∧ n ≤ hi)
theorem inB_t {n lo hi : Int} (h1 : lo ≤ n) (h2 : n ≤ hi) : inB n lo hi = true := by simp [inB, h1, h2]
theorem inB_f {n lo hi : Int} (h : n < lo ∨ hi < n) : inB n lo hi = false := by simp [inB]; omega
theorem inB_iff {n lo hi : Int} : inB n lo hi = true ↔ lo ≤ n ∧ n ≤ hi := by simp [inB]
theorem inB_nif {n lo hi : Int} : inB n lo hi = false ↔ n < lo ∨ hi < n := by simp [inB]; omega

theorem l1In_any (n lo hi : Int) (w : World) :
    Calls Try.prog 38 #[.int .i64 n, .int .i64 lo, .int .i64 hi] w fun e w' => e = .returned (.bool (inB n lo hi)) ∧ w = w' := by
  by_cases h1 : lo ≤ n <;> by_cases h2 : n ≤ hi
  all_goals
    go_enter Try.func38, Try.ntmps38
    go_wp2
    go_ret
    refine ⟨ret_b ?_, rfl⟩
    symm
    first
    | (rw [inB_iff]; omega)
    | (rw [inB_nif]; omega)

theorem isPair_any (v : Int) (w : World) :
    Calls Try.prog 44 #[.int .i64 v] w fun e w' => e = .returned (.bool (inB v 0 65535)) ∧ w = w' := by
  by_cases h1 : 0 ≤ v <;> by_cases h2 : v ≤ 65535
  all_goals
    go_enter Try.func44, Try.ntmps44
    go_wp2
    go_ret
    refine ⟨ret_b ?_, rfl⟩
    symm
    first
    | (rw [inB_iff]; omega)
    | (rw [inB_nif]; omega)

theorem sumAdd_any (a b : Int) (w : World) (ha : 0 ≤ a ∧ a ≤ 65535) (hb : 0 ≤ b ∧ b ≤ 65535) :
    Calls Try.prog 40 #[.int .i64 a, .int .i64 b] w fun e w' => e = .returned (.int .i64 (sAdd a b)) ∧ w = w' := by
  obtain ⟨a1, a2⟩ := ha
  obtain ⟨b1, b2⟩ := hb
  by_cases h : 65535 < a + b
  · go_enter Try.func40, Try.ntmps40
    go_wp2
    go_ret
    exact ⟨ret_i (sAdd_hi (by omega)).symm, rfl⟩
  · go_enter Try.func40, Try.ntmps40
    go_wp2
    go_ret
    exact ⟨ret_i (sAdd_lo (by omega)).symm, rfl⟩

def sTurn (s o n : Int) : Int := if inB s 0 65535 && inB o 0 65535 && inB n 0 65535 then sAdd (sAdd s o) (65535 - n) else -1

theorem sumTurned_impl (s o n : Int) (w : World) :
    Calls Try.prog 28 #[.int .i64 s, .int .i64 o, .int .i64 n] w fun e w' => e = .returned (.int .i64 (sTurn s o n)) ∧ w = w' := by
  rcases hs : inB s 0 65535 with _ | _
  · go_enter Try.func28, Try.ntmps28
    go_wp2_with (go_at_call 44; refine (isPair_any _ _).mono ?_; rintro e w' ⟨rfl, rfl⟩)
    go_ret
    exact ⟨ret_i (by simp [sTurn, hs]), rfl⟩
  rcases ho : inB o 0 65535 with _ | _
  · go_enter Try.func28, Try.ntmps28
    go_wp2_with (go_at_call 44; refine (isPair_any _ _).mono ?_; rintro e w' ⟨rfl, rfl⟩)
    go_ret
    exact ⟨ret_i (by simp [sTurn, ho]), rfl⟩
  rcases hn : inB n 0 65535 with _ | _
  · go_enter Try.func28, Try.ntmps28
    go_wp2_with (go_at_call 44; refine (isPair_any _ _).mono ?_; rintro e w' ⟨rfl, rfl⟩)
    go_ret
    exact ⟨ret_i (by simp [sTurn, hn]), rfl⟩
  obtain ⟨s1, s2⟩ := inB_iff.1 hs
  obtain ⟨o1, o2⟩ := inB_iff.1 ho
  obtain ⟨n1, n2⟩ := inB_iff.1 hn
  obtain ⟨b1, b2⟩ := sAdd_bd ⟨s1, s2⟩ ⟨o1, o2⟩
  have hf := Lib.hid (show sTurn s o n = sAdd (sAdd s o) (65535 - n) by simp [sTurn, hs, ho, hn])
  go_enter Try.func28, Try.ntmps28
  go_wp2_with (first | (go_at_call 44; refine (isPair_any _ _).mono ?_; rintro e w' ⟨rfl, rfl⟩) | (go_at_call 40; refine (sumAdd_any _ _ _ (by omega) (by omega)).mono ?_; rintro e w' ⟨rfl, rfl⟩))
  go_ret
  exact ⟨ret_i hf.out.symm, rfl⟩

theorem sumTurned_spec (s o n : Int) (w : World) :
    Calls Try.prog 29 #[.int .i64 s, .int .i64 o, .int .i64 n] w fun e w' => e = .returned (.int .i64 (sTurn s o n)) ∧ w = w' := by
  rcases hs : inB s 0 65535 with _ | _
  · go_enter Try.func29, Try.ntmps29
    go_wp2_with (go_at_call 38; refine (l1In_any _ _ _ _).mono ?_; rintro e w' ⟨rfl, rfl⟩)
    go_ret
    exact ⟨ret_i (by simp [sTurn, hs]), rfl⟩
  rcases ho : inB o 0 65535 with _ | _
  · go_enter Try.func29, Try.ntmps29
    go_wp2_with (go_at_call 38; refine (l1In_any _ _ _ _).mono ?_; rintro e w' ⟨rfl, rfl⟩)
    go_ret
    exact ⟨ret_i (by simp [sTurn, ho]), rfl⟩
  rcases hn : inB n 0 65535 with _ | _
  · go_enter Try.func29, Try.ntmps29
    go_wp2_with (go_at_call 38; refine (l1In_any _ _ _ _).mono ?_; rintro e w' ⟨rfl, rfl⟩)
    go_ret
    exact ⟨ret_i (by simp [sTurn, hn]), rfl⟩
  obtain ⟨s1, s2⟩ := inB_iff.1 hs
  obtain ⟨o1, o2⟩ := inB_iff.1 ho
  obtain ⟨n1, n2⟩ := inB_iff.1 hn
  have hf := Lib.hid (show sTurn s o n = sAdd (sAdd s o) (65535 - n) by simp [sTurn, hs, ho, hn])
  by_cases h : 65535 < s + o
  · by_cases h3 : 65535 < s + o - 65535 + 65535 - n
    all_goals
      go_enter Try.func29, Try.ntmps29
      go_wp2_with (go_at_call 38; refine (l1In_any _ _ _ _).mono ?_; rintro e w' ⟨rfl, rfl⟩)
      go_ret
      exact ⟨ret_i (by rw [hf.out, sAdd_hi (a := s) (b := o) h]; first | (rw [sAdd_hi (by omega)]; omega) | (rw [sAdd_lo (by omega)]; omega)), rfl⟩
  · by_cases h3 : 65535 < s + o + 65535 - n
    all_goals
      go_enter Try.func29, Try.ntmps29
      go_wp2_with (go_at_call 38; refine (l1In_any _ _ _ _).mono ?_; rintro e w' ⟨rfl, rfl⟩)
      go_ret
      exact ⟨ret_i (by rw [hf.out, sAdd_lo (a := s) (b := o) (by omega)]; first | (rw [sAdd_hi (by omega)]; omega) | (rw [sAdd_lo (by omega)]; omega)), rfl⟩

end Go.Proofs.Ytmmhobokbbcpbaa
