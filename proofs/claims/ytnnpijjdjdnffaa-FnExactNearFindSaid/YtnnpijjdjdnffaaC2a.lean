import Derived.Test.YtnnpijjdjdnffaaC1f
import Derived.Test.YtnnpijjdjdnffaaC1e
namespace Go.Proofs.Ytnnpijjdjdnffaa
open Go.ChangeShapes Go.WideShapes Go.ChangeAt Go.RowKit

theorem isLink_any (v : Int) (w : World) :
    Calls Try.prog 57 #[.int .i64 v] w fun e w' => e = .returned (.bool (inB v 0 254)) ∧ w = w' := by
  by_cases h1 : 0 ≤ v <;> by_cases h2 : v < 255
  all_goals
    go_enter Try.func57, Try.ntmps57
    go_wp2
    go_ret
    refine ⟨ret_b ?_, rfl⟩
    symm
    first
    | (rw [inB_iff]; omega)
    | (rw [inB_nif]; omega)
theorem isByte_any (v : Int) (w : World) :
    Calls Try.prog 58 #[.int .i64 v] w fun e w' => e = .returned (.bool (inB v 0 255)) ∧ w = w' := by
  by_cases h1 : 0 ≤ v <;> by_cases h2 : v ≤ 255
  all_goals
    go_enter Try.func58, Try.ntmps58
    go_wp2
    go_ret
    refine ⟨ret_b ?_, rfl⟩
    symm
    first
    | (rw [inB_iff]; omega)
    | (rw [inB_nif]; omega)

/-- a frame's parts are those of a frame -/
def frOk (t f k : Int) (n : Nat) : Bool := inB t 0 255 && inB f 0 254 && inB k 0 255 && decide (n ≤ 64)
theorem frOk_iff {t f k : Int} {n : Nat} : frOk t f k n = true ↔ (0 ≤ t ∧ t ≤ 255) ∧ (0 ≤ f ∧ f ≤ 254) ∧ (0 ≤ k ∧ k ≤ 255) ∧ n ≤ 64 := by
  simp [frOk, inB]; omega

theorem frameOk_impl (t f k : Int) (A : Option Addr) (n c : Nat) (w : World) (hn : n ≤ 140737488355328) :
    Calls Try.prog 19 #[.agg #[.int .i64 t, .int .i64 f, .int .i64 k, .slice A n c]] w fun e w' => e = .returned (.bool (frOk t f k n)) ∧ Below w.heap.size w w' := by
  have hb : Below w.heap.size w (w.alloc (.cells #[.int .i64 t, .int .i64 f, .int .i64 k, .slice A n c] 24)) := (Below.refl _ _).alloc (Nat.le_refl _) _
  have HB := Lib.hid hb
  clear hb
  by_cases ht : t = 255
  · have t0 : (t == 255) = true := by simp [ht]
    have HT := Lib.hid ht
    clear ht
    rcases hf : inB f 0 254 with _ | _
    · go_enter Try.func19, Try.ntmps19
      go_wp2_with (first | (go_at_call 57; refine (isLink_any _ _).mono ?_; rintro e w' ⟨rfl, rfl⟩) | (go_at_call 58; refine (isByte_any _ _).mono ?_; rintro e w' ⟨rfl, rfl⟩))
      go_ret
      exact ⟨ret_b (by simp [frOk, hf]), HB.out⟩
    rcases hk : inB k 0 255 with _ | _
    · go_enter Try.func19, Try.ntmps19
      go_wp2_with (first | (go_at_call 57; refine (isLink_any _ _).mono ?_; rintro e w' ⟨rfl, rfl⟩) | (go_at_call 58; refine (isByte_any _ _).mono ?_; rintro e w' ⟨rfl, rfl⟩))
      go_ret
      exact ⟨ret_b (by simp [frOk, hk]), HB.out⟩
    have HR : Hid (decide ((n : Int) ≤ 64) = frOk t f k n) := Lib.hid (by have := HT.out; subst this; have ht' : inB 255 0 255 = true := rfl; rw [Bool.eq_iff_iff]; simp [frOk, hf, hk, ht']; omega)
    go_enter Try.func19, Try.ntmps19
    go_wp2_with (first | (go_at_call 57; refine (isLink_any _ _).mono ?_; rintro e w' ⟨rfl, rfl⟩) | (go_at_call 58; refine (isByte_any _ _).mono ?_; rintro e w' ⟨rfl, rfl⟩))
    go_ret
    exact ⟨ret_b HR.out, HB.out⟩
  · have t0 : (t == 255) = false := by simp [ht]
    have HT := Lib.hid ht
    clear ht
    rcases htl : inB t 0 254 with _ | _
    · have HR : Hid (false = frOk t f k n) := Lib.hid (by have h1 := inB_nif.1 htl; have h2 := HT.out; have : inB t 0 255 = false := inB_nif.2 (by omega); simp [frOk, this])
      go_enter Try.func19, Try.ntmps19
      go_wp2_with (first | (go_at_call 57; refine (isLink_any _ _).mono ?_; rintro e w' ⟨rfl, rfl⟩) | (go_at_call 58; refine (isByte_any _ _).mono ?_; rintro e w' ⟨rfl, rfl⟩))
      go_ret
      exact ⟨ret_b HR.out, HB.out⟩
    have HTT := Lib.hid (show inB t 0 255 = true from inB_iff.2 (by have := inB_iff.1 htl; omega))
    rcases hf : inB f 0 254 with _ | _
    · go_enter Try.func19, Try.ntmps19
      go_wp2_with (first | (go_at_call 57; refine (isLink_any _ _).mono ?_; rintro e w' ⟨rfl, rfl⟩) | (go_at_call 58; refine (isByte_any _ _).mono ?_; rintro e w' ⟨rfl, rfl⟩))
      go_ret
      exact ⟨ret_b (by simp [frOk, hf]), HB.out⟩
    rcases hk : inB k 0 255 with _ | _
    · go_enter Try.func19, Try.ntmps19
      go_wp2_with (first | (go_at_call 57; refine (isLink_any _ _).mono ?_; rintro e w' ⟨rfl, rfl⟩) | (go_at_call 58; refine (isByte_any _ _).mono ?_; rintro e w' ⟨rfl, rfl⟩))
      go_ret
      exact ⟨ret_b (by simp [frOk, hk]), HB.out⟩
    have HR : Hid (decide ((n : Int) ≤ 64) = frOk t f k n) := Lib.hid (by rw [Bool.eq_iff_iff]; simp [frOk, hf, hk, HTT.out]; omega)
    go_enter Try.func19, Try.ntmps19
    go_wp2_with (first | (go_at_call 57; refine (isLink_any _ _).mono ?_; rintro e w' ⟨rfl, rfl⟩) | (go_at_call 58; refine (isByte_any _ _).mono ?_; rintro e w' ⟨rfl, rfl⟩))
    go_ret
    exact ⟨ret_b HR.out, HB.out⟩

theorem frameOk_spec (t f k : Int) (A : Option Addr) (n c : Nat) (w : World) (hn : n ≤ 140737488355328) :
    Calls Try.prog 54 #[.agg #[.int .i64 t, .int .i64 f, .int .i64 k, .slice A n c]] w fun e w' => e = .returned (.bool (frOk t f k n)) ∧ Below w.heap.size w w' := by
  have HB := Lib.hid (show Below w.heap.size w (w.alloc (.cells #[.int .i64 t, .int .i64 f, .int .i64 k, .slice A n c] 24)) from (Below.refl _ _).alloc (Nat.le_refl _) _)
  rcases ht : inB t 0 255 with _ | _
  · go_enter Try.func54, Try.ntmps54
    go_wp2_with (go_at_call 61; refine (l1In_any _ _ _ _).mono ?_; rintro e w' ⟨rfl, rfl⟩)
    go_ret
    exact ⟨ret_b (by simp [frOk, ht]), HB.out⟩
  rcases hf : inB f 0 254 with _ | _
  · go_enter Try.func54, Try.ntmps54
    go_wp2_with (go_at_call 61; refine (l1In_any _ _ _ _).mono ?_; rintro e w' ⟨rfl, rfl⟩)
    go_ret
    exact ⟨ret_b (by simp [frOk, hf]), HB.out⟩
  rcases hk : inB k 0 255 with _ | _
  · go_enter Try.func54, Try.ntmps54
    go_wp2_with (go_at_call 61; refine (l1In_any _ _ _ _).mono ?_; rintro e w' ⟨rfl, rfl⟩)
    go_ret
    exact ⟨ret_b (by simp [frOk, hk]), HB.out⟩
  have HR : Hid (decide ((n : Int) ≤ 64) = frOk t f k n) := Lib.hid (by rw [Bool.eq_iff_iff]; simp [frOk, hf, hk, ht]; omega)
  go_enter Try.func54, Try.ntmps54
  go_wp2_with (go_at_call 61; refine (l1In_any _ _ _ _).mono ?_; rintro e w' ⟨rfl, rfl⟩)
  go_ret
  exact ⟨ret_b HR.out, HB.out⟩
end Go.Proofs.Ytnnpijjdjdnffaa
