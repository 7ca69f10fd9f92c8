import Derived.Test.YtnnpijjdjdnffaaC1c
import Derived.Test.YtnnpijjdjdnffaaNumAt
namespace Go.Proofs.Ytnnpijjdjdnffaa
open Go.ChangeShapes Go.WideShapes Go.ChangeAt Go.RowKit

theorem isWidth_any (v : Int) (w : World) :
    Calls Try.prog 76 #[.int .i64 v] w fun e w' => e = .returned (.bool (inB v 1 4)) ∧ w = w' := by
  by_cases h1 : 1 ≤ v <;> by_cases h2 : v ≤ 4
  all_goals
    go_enter Try.func76, Try.ntmps76
    go_wp2
    go_ret
    refine ⟨ret_b ?_, rfl⟩
    symm
    first
    | (rw [inB_iff]; omega)
    | (rw [inB_nif]; omega)

theorem numberAt_no (A : Option Addr) (l c : Nat) (xs : List UInt8) (a n : Int) (w : World) (hl : l = xs.length) (hn : l ≤ 140737488355328)
    (h : ¬ (1 ≤ n ∧ n ≤ 4 ∧ 0 ≤ a ∧ a ≤ (l : Int) - n)) :
    Calls Try.prog 63 #[.slice A l c, .int .i64 a, .int .i64 n] w fun e w' => e = .returned (.int .i64 (numAt xs a n)) ∧ w = w' := by
  have HR : Hid (numAt xs a n = -1) := Lib.hid (by unfold numAt; rw [if_neg (by rw [← hl]; exact h)])
  have HL := Lib.hid hl
  clear hl
  rcases h2 : inB n 1 4 with _ | _
  · clear h
    go_enter Try.func63, Try.ntmps63
    go_wp2_with (go_at_call 76; refine (isWidth_any _ _).mono ?_; rintro e w' ⟨rfl, rfl⟩)
    go_ret
    exact ⟨ret_i HR.out.symm, rfl⟩
  · obtain ⟨n1, n2⟩ := inB_iff.1 h2
    by_cases h3 : a < 0
    · clear h
      go_enter Try.func63, Try.ntmps63
      go_wp2_with (go_at_call 76; refine (isWidth_any _ _).mono ?_; rintro e w' ⟨rfl, rfl⟩)
      go_ret
      exact ⟨ret_i HR.out.symm, rfl⟩
    · have h4 : (l : Int) - n < a := by omega
      clear h
      go_enter Try.func63, Try.ntmps63
      go_wp2_with (go_at_call 76; refine (isWidth_any _ _).mono ?_; rintro e w' ⟨rfl, rfl⟩)
      go_ret
      exact ⟨ret_i HR.out.symm, rfl⟩

theorem numberAt_yes (A : Option Addr) (l c B : Nat) (xs : List UInt8) (a n : Nat) (w : World) (h : Rd w B A l (bv xs)) (hl : l ≤ 140737488355328)
    (n1 : 1 ≤ n) (n2 : n ≤ 4) (ha : a + n ≤ l) :
    Calls Try.prog 63 #[.slice A l c, .int .i64 a, .int .i64 n] w fun e w' => e = .returned (.int .i64 (numAt xs a n)) ∧ w = w' := by
  have hlen := rd_len h
  have HR : Hid (numAt xs a n = numV xs a n) := Lib.hid (by unfold numAt; rw [if_pos (by omega)]; simp)
  have HL := Lib.hid hlen
  clear hlen
  have h2 : inB n 1 4 = true := inB_t (by omega) (by omega)
  have h3 : ¬ (a : Int) < 0 := by omega
  have h4 : ¬ (l : Int) - n < a := by omega
  go_enter Try.func63, Try.ntmps63
  go_wp2_with (go_at_call 76; refine (isWidth_any _ _).mono ?_; rintro e w' ⟨rfl, rfl⟩)
  go_loop [7, 8] (fun v i => ∃ k : Nat, k ≤ n ∧ i = .int .i64 k ∧ v = .int .i64 (numV xs a k)) (fun _ i => n - (intOf i).toNat)
  case atStart => exact ⟨0, Nat.zero_le _, rfl, rfl⟩
  case round =>
    obtain ⟨k, hk, rfl, rfl⟩ := hrel
    by_cases hlt : k < n
    · obtain ⟨v, hv⟩ : ∃ v, v = numV xs a k := ⟨_, rfl⟩
      have hb := numV_small xs a k (by omega)
      rw [← hv] at hb ⊢
      obtain ⟨hb1, hb2⟩ := hb
      obtain ⟨b, off, x, rfl, hbB, hx, hc⟩ := h.byte (show a + k < l by omega)
      have bx := x.toNat_lt
      have HS : Hid (numV xs a (k + 1) = v * 256 + (x.toNat : Int)) := Lib.hid (by rw [hv]; simp [numV, List.getD, hx])
      have HV := Lib.hid hv
      clear hv h hx
      go_wp2
      go_round
      case rel => exact ⟨k + 1, by omega, by go_num, by rw [HS.out]⟩
      case measure => simp [intOf] <;> omega
    · go_wp2
      go_ret
      have : k = n := by omega
      exact ⟨ret_i (by rw [HR.out, this]), rfl⟩

theorem numberAt_any (A : Option Addr) (l c B : Nat) (xs : List UInt8) (a n : Int) (w : World) (h : Rd w B A l (bv xs)) (hl : l ≤ 140737488355328) :
    Calls Try.prog 63 #[.slice A l c, .int .i64 a, .int .i64 n] w fun e w' => e = .returned (.int .i64 (numAt xs a n)) ∧ w = w' := by
  by_cases hv : 1 ≤ n ∧ n ≤ 4 ∧ 0 ≤ a ∧ a ≤ (l : Int) - n
  · obtain ⟨n', rfl⟩ := Int.eq_ofNat_of_zero_le (show 0 ≤ n by omega)
    obtain ⟨a', rfl⟩ := Int.eq_ofNat_of_zero_le (show 0 ≤ a by omega)
    exact numberAt_yes A l c B xs a' n' w h hl (by omega) (by omega) (by omega)
  · exact numberAt_no A l c xs a n w (rd_len h) hl hv

theorem numberAtS_no (A : Option Addr) (l c : Nat) (xs : List UInt8) (a n : Int) (w : World) (hl : l = xs.length) (hn : l ≤ 140737488355328)
    (h : ¬ (1 ≤ n ∧ n ≤ 4 ∧ 0 ≤ a ∧ a ≤ (l : Int) - n)) :
    Calls Try.prog 60 #[.slice A l c, .int .i64 a, .int .i64 n] w fun e w' => e = .returned (.int .i64 (numAt xs a n)) ∧ w = w' := by
  have HR : Hid (numAt xs a n = -1) := Lib.hid (by unfold numAt; rw [if_neg (by rw [← hl]; exact h)])
  have HL := Lib.hid hl
  clear hl
  rcases h2 : inB n 1 4 with _ | _
  · clear h
    go_enter Try.func60, Try.ntmps60
    go_wp2_with (go_at_call 61; refine (l1In_any _ _ _ _).mono ?_; rintro e w' ⟨rfl, rfl⟩)
    go_ret
    exact ⟨ret_i HR.out.symm, rfl⟩
  · obtain ⟨n1, n2⟩ := inB_iff.1 h2
    by_cases h3 : a < 0
    · clear h
      have h5 : inB a 0 ((l : Int) - n) = false := inB_f (by omega)
      go_enter Try.func60, Try.ntmps60
      go_wp2_with (go_at_call 61; refine (l1In_any _ _ _ _).mono ?_; rintro e w' ⟨rfl, rfl⟩)
      go_ret
      exact ⟨ret_i HR.out.symm, rfl⟩
    · have h4 : (l : Int) - n < a := by omega
      have h5 : inB a 0 ((l : Int) - n) = false := inB_f (by omega)
      clear h
      go_enter Try.func60, Try.ntmps60
      go_wp2_with (go_at_call 61; refine (l1In_any _ _ _ _).mono ?_; rintro e w' ⟨rfl, rfl⟩)
      go_ret
      exact ⟨ret_i HR.out.symm, rfl⟩

theorem numberAtS_yes (A : Option Addr) (l c B : Nat) (xs : List UInt8) (a n : Nat) (w : World) (h : Rd w B A l (bv xs)) (hl : l ≤ 140737488355328)
    (n1 : 1 ≤ n) (n2 : n ≤ 4) (ha : a + n ≤ l) :
    Calls Try.prog 60 #[.slice A l c, .int .i64 a, .int .i64 n] w fun e w' => e = .returned (.int .i64 (numAt xs a n)) ∧ w = w' := by
  have hlen := rd_len h
  have HR : Hid (numAt xs a n = numV xs a n) := Lib.hid (by unfold numAt; rw [if_pos (by omega)]; simp)
  have HL := Lib.hid hlen
  clear hlen
  have h2 : inB n 1 4 = true := inB_t (by omega) (by omega)
  have h5 : inB a 0 ((l : Int) - n) = true := inB_t (by omega) (by omega)
  go_enter Try.func60, Try.ntmps60
  go_wp2_with (go_at_call 61; refine (l1In_any _ _ _ _).mono ?_; rintro e w' ⟨rfl, rfl⟩)
  go_loop [7, 8] (fun v i => ∃ k : Nat, k ≤ n ∧ i = .int .i64 k ∧ v = .int .i64 (numV xs a k)) (fun _ i => n - (intOf i).toNat)
  case atStart => exact ⟨0, Nat.zero_le _, rfl, rfl⟩
  case round =>
    obtain ⟨k, hk, rfl, rfl⟩ := hrel
    by_cases hlt : k < n
    · obtain ⟨v, hv⟩ : ∃ v, v = numV xs a k := ⟨_, rfl⟩
      have hb := numV_small xs a k (by omega)
      rw [← hv] at hb ⊢
      obtain ⟨hb1, hb2⟩ := hb
      obtain ⟨b, off, x, rfl, hbB, hx, hc⟩ := h.byte (show a + k < l by omega)
      have bx := x.toNat_lt
      have HS : Hid (numV xs a (k + 1) = v * 256 + (x.toNat : Int)) := Lib.hid (by rw [hv]; simp [numV, List.getD, hx])
      have HV := Lib.hid hv
      clear hv h hx
      go_wp2
      go_round
      case rel => exact ⟨k + 1, by omega, by go_num, by rw [HS.out]⟩
      case measure => simp [intOf] <;> omega
    · go_wp2
      go_ret
      have : k = n := by omega
      exact ⟨ret_i (by rw [HR.out, this]), rfl⟩

theorem numberAtS_any (A : Option Addr) (l c B : Nat) (xs : List UInt8) (a n : Int) (w : World) (h : Rd w B A l (bv xs)) (hl : l ≤ 140737488355328) :
    Calls Try.prog 60 #[.slice A l c, .int .i64 a, .int .i64 n] w fun e w' => e = .returned (.int .i64 (numAt xs a n)) ∧ w = w' := by
  by_cases hv : 1 ≤ n ∧ n ≤ 4 ∧ 0 ≤ a ∧ a ≤ (l : Int) - n
  · obtain ⟨n', rfl⟩ := Int.eq_ofNat_of_zero_le (show 0 ≤ n by omega)
    obtain ⟨a', rfl⟩ := Int.eq_ofNat_of_zero_le (show 0 ≤ a by omega)
    exact numberAtS_yes A l c B xs a' n' w h hl (by omega) (by omega) (by omega)
  · exact numberAtS_no A l c xs a n w (rd_len h) hl hv
end Go.Proofs.Ytnnpijjdjdnffaa
