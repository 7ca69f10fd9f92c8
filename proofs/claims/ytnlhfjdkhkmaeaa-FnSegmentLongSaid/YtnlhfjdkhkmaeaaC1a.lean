import Derived.Test.YtnlhfjdkhkmaeaaMem
import Derived.Test.YtnlhfjdkhkmaeaaNum
import Derived.Outline
import Derived.BigQuiet
import Derived.Deep.QuietTactic
namespace Go.Proofs.Ytnlhfjdkhkmaeaa
open Go.ChangeShapes Go.WideShapes Go.ChangeAt Go.RowKit
def inB (n lo hi : Int) : Bool := decide (lo ≤ n ∧ n ≤ hi)
theorem inB_t {n lo hi : Int} (h1 : lo ≤ n) (h2 : n ≤ hi) : inB n lo hi = true := by simp [inB, h1, h2]
theorem inB_f {n lo hi : Int} (h : n < lo ∨ hi < n) : inB n lo hi = false := by simp [inB]; omega
theorem inB_iff {n lo hi : Int} : inB n lo hi = true ↔ lo ≤ n ∧ n ≤ hi := by simp [inB]
theorem inB_nif {n lo hi : Int} : inB n lo hi = false ↔ n < lo ∨ hi < n := by simp [inB]; omega
theorem l1In_any (n lo hi : Int) (w : World) :
    Calls Try.prog 40 #[.int .i64 n, .int .i64 lo, .int .i64 hi] w fun e w' => e = .returned (.bool (inB n lo hi)) ∧ w = w' := by
  by_cases h1 : lo ≤ n <;> by_cases h2 : n ≤ hi
  all_goals
    go_enter Try.func40, Try.ntmps40
    go_wp2
    go_ret
    refine ⟨ret_b ?_, rfl⟩
    symm
    first
    | (rw [inB_iff]; omega)
    | (rw [inB_nif]; omega)
theorem sumAdd_any (a b : Int) (w : World) (ha : 0 ≤ a ∧ a ≤ 65535) (hb : 0 ≤ b ∧ b ≤ 65535) :
    Calls Try.prog 78 #[.int .i64 a, .int .i64 b] w fun e w' => e = .returned (.int .i64 (sAdd a b)) ∧ w = w' := by
  obtain ⟨a1, a2⟩ := ha
  obtain ⟨b1, b2⟩ := hb
  by_cases h : 65535 < a + b
  · go_enter Try.func78, Try.ntmps78
    go_wp2
    go_ret
    exact ⟨ret_i (sAdd_hi (by omega)).symm, rfl⟩
  · go_enter Try.func78, Try.ntmps78
    go_wp2
    go_ret
    exact ⟨ret_i (sAdd_lo (by omega)).symm, rfl⟩
end Go.Proofs.Ytnlhfjdkhkmaeaa
namespace Go.Proofs.Ytnlhfjdkhkmaeaa
open Go.ChangeShapes Go.WideShapes Go.ChangeAt Go.RowKit
def pairVal (xs : List UInt8) (k : Nat) : Int := 256 * ((xs.getD k 0).toNat : Int) + ((xs.getD (k + 1) 0).toNat : Int)
theorem pairVal_bd (xs : List UInt8) (k : Nat) : 0 ≤ pairVal xs k ∧ pairVal xs k ≤ 65535 := by
  have h1 := (xs.getD k 0).toNat_lt; have h2 := (xs.getD (k + 1) 0).toNat_lt; unfold pairVal; omega
theorem pairAt_any (A : Option Addr) (n c B k : Nat) (xs : List UInt8) (w : World) (h : Rd w B A n (bv xs)) (hn : n ≤ 140737488355328) (hk : k < n) :
    Calls Try.prog 79 #[.slice A n c, .int .i64 k] w fun e w' => e = .returned (.int .i64 (pairVal xs k)) ∧ w = w' := by
  have hlen : n = xs.length := by have := h.len; rw [bv_len] at this; omega
  obtain ⟨b, off, x, rfl, hbB, hx, hc⟩ := h.byte hk
  have bx := x.toNat_lt
  by_cases h2 : k + 1 < n
  · obtain ⟨b', off', y, he, hbB', hy, hc'⟩ := h.byte h2
    obtain ⟨rfl, rfl⟩ : b = b' ∧ off = off' := by simpa using he
    have by' := y.toNat_lt
    have HR := Lib.hid (show pairVal xs k = 256 * (x.toNat : Int) + (y.toNat : Int) by simp [pairVal, List.getD, hx, hy])
    clear h he hx hy hlen
    go_enter Try.func79, Try.ntmps79
    go_wp2
    go_ret
    exact ⟨ret_i (by rw [HR.out]; omega), rfl⟩
  · have HR := Lib.hid (show pairVal xs k = 256 * (x.toNat : Int) by
      simp [pairVal, List.getD, hx, List.getElem?_eq_none (show xs.length ≤ k + 1 by omega)])
    clear h hx hlen
    go_enter Try.func79, Try.ntmps79
    go_wp2
    go_ret
    exact ⟨ret_i (by rw [HR.out]; omega), rfl⟩
theorem pk_over (xs : List UInt8) (k : Nat) (h : xs.length ≤ k) : pk xs k = pk xs xs.length := by
  induction k with
  | zero =>
    have : xs.length = 0 := by omega
    rw [this]
  | succ k ih =>
    by_cases hk : xs.length ≤ k
    · rw [← ih hk]
      show pk xs k + wt k (xs.getD k 0) = _
      have : xs.getD k 0 = 0 := by simp [List.getD, List.getElem?_eq_none hk]
      rw [this]
      simp [wt]
    · have : xs.length = k + 1 := by omega
      rw [this]
theorem can_pair (xs : List UInt8) (k : Nat) (h : k % 2 = 0) : sAdd (can (pk xs k)) (pairVal xs k) = can (pk xs (k + 2)) := by
  have h1 := (xs.getD k 0).toNat_lt; have h2 := (xs.getD (k + 1) 0).toNat_lt
  have e : pairVal xs k = ((256 * (xs.getD k 0).toNat + (xs.getD (k + 1) 0).toNat : Nat) : Int) := by simp [pairVal]
  rw [e, can_add _ _ (by omega)]
  show _ = can (pk xs k + wt k (xs.getD k 0) + wt (k + 1) (xs.getD (k + 1) 0))
  rw [wt_even h, wt_odd (by omega)]
  congr 1
  omega
theorem sumOf_impl (A : Option Addr) (n c B : Nat) (xs : List UInt8) (w : World) (h : Rd w B A n (bv xs)) (hn : n ≤ 140737488355328) :
    Calls Try.prog 70 #[.slice A n c] w fun e w' => e = .returned (.int .i64 (sumOf xs)) ∧ w = w' := by
  have hlen : n = xs.length := by have := h.len; rw [bv_len] at this; omega
  have HL := Lib.hid hlen
  clear hlen
  go_enter Try.func70, Try.ntmps70
  go_wp2
  go_loop [3, 4] (fun s i => ∃ k : Nat, k % 2 = 0 ∧ k ≤ n + 1 ∧ i = .int .i64 k ∧ s = .int .i64 (can (pk xs k))) (fun _ i => n + 1 - (intOf i).toNat)
  case atStart => exact ⟨0, rfl, by omega, rfl, rfl⟩
  case round =>
    obtain ⟨k, hk2, hk, rfl, rfl⟩ := hrel
    have hcb := can_bd (pk xs k)
    have hpb := pairVal_bd xs k
    by_cases hlt : k < n
    · have HS := Lib.hid (can_pair xs k hk2)
      have HK := Lib.hid hk2
      clear hk2
      go_wp2_with (first | (go_at_call 79; refine (pairAt_any _ _ _ _ _ _ _ h hn hlt).mono ?_; rintro e w' ⟨rfl, rfl⟩) | (go_at_call 78; refine (sumAdd_any _ _ _ hcb hpb).mono ?_; rintro e w' ⟨rfl, rfl⟩))
      go_round
      case rel => exact ⟨k + 2, by have := HK.out; omega, by omega, by go_num, by rw [HS.out]⟩
      case measure => simp [intOf] <;> omega
    · have HK := Lib.hid hk2
      clear hk2
      go_wp2
      go_ret
      exact ⟨ret_i (by unfold sumOf; rw [pk_over xs k (by have := HL.out; omega)]), rfl⟩
theorem l1Sum_any (A : Option Addr) (n c B : Nat) (xs : List UInt8) (w : World) (h : Rd w B A n (bv xs)) (hn : n ≤ 140737488355328) :
    Calls Try.prog 80 #[.slice A n c] w fun e w' => e = .returned (.int .i64 (can (pk xs xs.length))) ∧ w = w' := by
  have hlen : n = xs.length := by have := h.len; rw [bv_len] at this; omega
  have HL := Lib.hid hlen
  clear hlen
  go_enter Try.func80, Try.ntmps80
  go_wp2
  go_loop [3, 4] (fun s i => ∃ k : Nat, k ≤ n ∧ i = .int .i64 k ∧ s = .int .i64 (can (pk xs k))) (fun _ i => n - (intOf i).toNat)
  case atStart => exact ⟨0, Nat.zero_le _, rfl, rfl⟩
  case round =>
    obtain ⟨k, hk, rfl, rfl⟩ := hrel
    obtain ⟨s, hs⟩ : ∃ s, s = can (pk xs k) := ⟨_, rfl⟩
    have hcb := can_bd (pk xs k)
    rw [← hs] at hcb ⊢
    by_cases hlt : k < n
    · obtain ⟨b, off, x, rfl, hbB, hx, hc⟩ := h.byte hlt
      have bx := x.toNat_lt
      have hst : sAdd s (wt k x : Nat) = can (pk xs (k + 1)) := by
        rw [hs, can_add _ _ (by have := wt_le k x; omega)]
        show _ = can (pk xs k + wt k (xs.getD k 0))
        have : xs.getD k 0 = x := by simp [List.getD, hx]
        rw [this]
      have HS := Lib.hid hst
      clear hst hs h hx
      by_cases hk2 : k % 2 = 0
      · have ht : ((k : Int) % 2 == 0) = true := by simp; omega
        have hw : wt k x = 256 * x.toNat := wt_even hk2 x
        have HW := Lib.hid hw
        have HK := Lib.hid hk2
        clear hw hk2
        by_cases ho : 65535 < s + (x.toNat : Int) * 256
        all_goals
          go_wp2
          go_round
          case rel => exact ⟨k + 1, by omega, by go_num, by rw [← HS.out, HW.out]; first | (rw [sAdd_hi (by omega)] <;> go_num) | (rw [sAdd_lo (by omega)] <;> go_num)⟩
          case measure => simp [intOf] <;> omega
      · have ht : ((k : Int) % 2 == 0) = false := by simp; omega
        have hw : wt k x = x.toNat := wt_odd (by omega) x
        have HW := Lib.hid hw
        have HK := Lib.hid hk2
        clear hw hk2
        by_cases ho : 65535 < s + (x.toNat : Int)
        all_goals
          go_wp2
          go_round
          case rel => exact ⟨k + 1, by omega, by go_num, by rw [← HS.out, HW.out]; first | (rw [sAdd_hi (by omega)] <;> go_num) | (rw [sAdd_lo (by omega)] <;> go_num)⟩
          case measure => simp [intOf] <;> omega
    · have HS := Lib.hid hs
      clear hs
      go_wp2
      go_ret
      have : k = xs.length := by have := HL.out; omega
      exact ⟨ret_i (by rw [HS.out, this]), rfl⟩
theorem sumOf_spec (A : Option Addr) (n c B : Nat) (xs : List UInt8) (w : World) (h : Rd w B A n (bv xs)) (hn : n ≤ 140737488355328) :
    Calls Try.prog 71 #[.slice A n c] w fun e w' => e = .returned (.int .i64 (sumOf xs)) ∧ w = w' := by
  have hcb := can_bd (pk xs xs.length)
  go_enter Try.func71, Try.ntmps71
  go_wp2_with (go_at_call 80; refine (l1Sum_any _ _ _ _ _ _ h hn).mono ?_; rintro e w' ⟨rfl, rfl⟩)
  go_ret
  exact ⟨rfl, rfl⟩
end Go.Proofs.Ytnlhfjdkhkmaeaa
namespace Go.Proofs.Ytnlhfjdkhkmaeaa
open Go.ChangeShapes Go.WideShapes Go.ChangeAt Go.RowKit
def fits (xs : List UInt8) (s : Int) : Bool := decide (0 ≤ s ∧ s ≤ 65535 ∧ s % 65535 = sumOf xs % 65535)
end Go.Proofs.Ytnlhfjdkhkmaeaa
namespace Go.Proofs.Ytnlhfjdkhkmaeaa
open Go.ChangeShapes Go.WideShapes Go.ChangeAt Go.RowKit
theorem isWidth_any (v : Int) (w : World) :
    Calls Try.prog 67 #[.int .i64 v] w fun e w' => e = .returned (.bool (inB v 1 4)) ∧ w = w' := by
  by_cases h1 : 1 ≤ v <;> by_cases h2 : v ≤ 4
  all_goals
    go_enter Try.func67, Try.ntmps67
    go_wp2
    go_ret
    refine ⟨ret_b ?_, rfl⟩
    symm
    first
    | (rw [inB_iff]; omega)
    | (rw [inB_nif]; omega)
theorem numberAt_no (A : Option Addr) (l c : Nat) (xs : List UInt8) (a n : Int) (w : World) (hl : l = xs.length) (hn : l ≤ 140737488355328)
    (h : ¬ (1 ≤ n ∧ n ≤ 4 ∧ 0 ≤ a ∧ a ≤ (l : Int) - n)) :
    Calls Try.prog 72 #[.slice A l c, .int .i64 a, .int .i64 n] w fun e w' => e = .returned (.int .i64 (numAt xs a n)) ∧ w = w' := by
  have HR : Hid (numAt xs a n = -1) := Lib.hid (by unfold numAt; rw [if_neg (by rw [← hl]; exact h)])
  have HL := Lib.hid hl
  clear hl
  rcases h2 : inB n 1 4 with _ | _
  · clear h
    go_enter Try.func72, Try.ntmps72
    go_wp2_with (go_at_call 67; refine (isWidth_any _ _).mono ?_; rintro e w' ⟨rfl, rfl⟩)
    go_ret
    exact ⟨ret_i HR.out.symm, rfl⟩
  · obtain ⟨n1, n2⟩ := inB_iff.1 h2
    by_cases h3 : a < 0
    · clear h
      go_enter Try.func72, Try.ntmps72
      go_wp2_with (go_at_call 67; refine (isWidth_any _ _).mono ?_; rintro e w' ⟨rfl, rfl⟩)
      go_ret
      exact ⟨ret_i HR.out.symm, rfl⟩
    · have h4 : (l : Int) - n < a := by omega
      clear h
      go_enter Try.func72, Try.ntmps72
      go_wp2_with (go_at_call 67; refine (isWidth_any _ _).mono ?_; rintro e w' ⟨rfl, rfl⟩)
      go_ret
      exact ⟨ret_i HR.out.symm, rfl⟩
theorem numberAt_yes (A : Option Addr) (l c B : Nat) (xs : List UInt8) (a n : Nat) (w : World) (h : Rd w B A l (bv xs)) (hl : l ≤ 140737488355328)
    (n1 : 1 ≤ n) (n2 : n ≤ 4) (ha : a + n ≤ l) :
    Calls Try.prog 72 #[.slice A l c, .int .i64 a, .int .i64 n] w fun e w' => e = .returned (.int .i64 (numAt xs a n)) ∧ w = w' := by
  have hlen := rd_len h
  have HR : Hid (numAt xs a n = numV xs a n) := Lib.hid (by unfold numAt; rw [if_pos (by omega)]; simp)
  have HL := Lib.hid hlen
  clear hlen
  have h2 : inB n 1 4 = true := inB_t (by omega) (by omega)
  have h3 : ¬ (a : Int) < 0 := by omega
  have h4 : ¬ (l : Int) - n < a := by omega
  go_enter Try.func72, Try.ntmps72
  go_wp2_with (go_at_call 67; refine (isWidth_any _ _).mono ?_; rintro e w' ⟨rfl, rfl⟩)
  go_loop [7, 8] (fun v i => ∃ k : Nat, k ≤ n ∧ i = .int .i64 k ∧ v = .int .i64 (numV xs a k)) (fun _ i => n - (intOf i).toNat)
  case atStart => exact ⟨0, Nat.zero_le _, rfl, rfl⟩
  case round =>
    obtain ⟨k, hk, rfl, rfl⟩ := hrel
    by_cases hlt : k < n
    · obtain ⟨v, hv⟩ : ∃ v, v = numV xs a k := ⟨_, rfl⟩
      have hb := numV_small xs a k (by omega)
      rw [← hv] at hb ⊢
      obtain ⟨hb1, hb2⟩ := hb
      obtain ⟨b, off, x, rfl, hbB, hx, hc⟩ := h.byte (show a + k < l by omega)
      have bx := x.toNat_lt
      have HS : Hid (numV xs a (k + 1) = v * 256 + (x.toNat : Int)) := Lib.hid (by rw [hv]; simp [numV, List.getD, hx])
      have HV := Lib.hid hv
      clear hv h hx
      go_wp2
      go_round
      case rel => exact ⟨k + 1, by omega, by go_num, by rw [HS.out]⟩
      case measure => simp [intOf] <;> omega
    · go_wp2
      go_ret
      have : k = n := by omega
      exact ⟨ret_i (by rw [HR.out, this]), rfl⟩
theorem numberAt_any (A : Option Addr) (l c B : Nat) (xs : List UInt8) (a n : Int) (w : World) (h : Rd w B A l (bv xs)) (hl : l ≤ 140737488355328) :
    Calls Try.prog 72 #[.slice A l c, .int .i64 a, .int .i64 n] w fun e w' => e = .returned (.int .i64 (numAt xs a n)) ∧ w = w' := by
  by_cases hv : 1 ≤ n ∧ n ≤ 4 ∧ 0 ≤ a ∧ a ≤ (l : Int) - n
  · obtain ⟨n', rfl⟩ := Int.eq_ofNat_of_zero_le (show 0 ≤ n by omega)
    obtain ⟨a', rfl⟩ := Int.eq_ofNat_of_zero_le (show 0 ≤ a by omega)
    exact numberAt_yes A l c B xs a' n' w h hl (by omega) (by omega) (by omega)
  · exact numberAt_no A l c xs a n w (rd_len h) hl hv
theorem numberAtS_no (A : Option Addr) (l c : Nat) (xs : List UInt8) (a n : Int) (w : World) (hl : l = xs.length) (hn : l ≤ 140737488355328)
    (h : ¬ (1 ≤ n ∧ n ≤ 4 ∧ 0 ≤ a ∧ a ≤ (l : Int) - n)) :
    Calls Try.prog 54 #[.slice A l c, .int .i64 a, .int .i64 n] w fun e w' => e = .returned (.int .i64 (numAt xs a n)) ∧ w = w' := by
  have HR : Hid (numAt xs a n = -1) := Lib.hid (by unfold numAt; rw [if_neg (by rw [← hl]; exact h)])
  have HL := Lib.hid hl
  clear hl
  rcases h2 : inB n 1 4 with _ | _
  · clear h
    go_enter Try.func54, Try.ntmps54
    go_wp2_with (go_at_call 40; refine (l1In_any _ _ _ _).mono ?_; rintro e w' ⟨rfl, rfl⟩)
    go_ret
    exact ⟨ret_i HR.out.symm, rfl⟩
  · obtain ⟨n1, n2⟩ := inB_iff.1 h2
    by_cases h3 : a < 0
    · clear h
      have h5 : inB a 0 ((l : Int) - n) = false := inB_f (by omega)
      go_enter Try.func54, Try.ntmps54
      go_wp2_with (go_at_call 40; refine (l1In_any _ _ _ _).mono ?_; rintro e w' ⟨rfl, rfl⟩)
      go_ret
      exact ⟨ret_i HR.out.symm, rfl⟩
    · have h4 : (l : Int) - n < a := by omega
      have h5 : inB a 0 ((l : Int) - n) = false := inB_f (by omega)
      clear h
      go_enter Try.func54, Try.ntmps54
      go_wp2_with (go_at_call 40; refine (l1In_any _ _ _ _).mono ?_; rintro e w' ⟨rfl, rfl⟩)
      go_ret
      exact ⟨ret_i HR.out.symm, rfl⟩
theorem numberAtS_yes (A : Option Addr) (l c B : Nat) (xs : List UInt8) (a n : Nat) (w : World) (h : Rd w B A l (bv xs)) (hl : l ≤ 140737488355328)
    (n1 : 1 ≤ n) (n2 : n ≤ 4) (ha : a + n ≤ l) :
    Calls Try.prog 54 #[.slice A l c, .int .i64 a, .int .i64 n] w fun e w' => e = .returned (.int .i64 (numAt xs a n)) ∧ w = w' := by
  have hlen := rd_len h
  have HR : Hid (numAt xs a n = numV xs a n) := Lib.hid (by unfold numAt; rw [if_pos (by omega)]; simp)
  have HL := Lib.hid hlen
  clear hlen
  have h2 : inB n 1 4 = true := inB_t (by omega) (by omega)
  have h5 : inB a 0 ((l : Int) - n) = true := inB_t (by omega) (by omega)
  go_enter Try.func54, Try.ntmps54
  go_wp2_with (go_at_call 40; refine (l1In_any _ _ _ _).mono ?_; rintro e w' ⟨rfl, rfl⟩)
  go_loop [7, 8] (fun v i => ∃ k : Nat, k ≤ n ∧ i = .int .i64 k ∧ v = .int .i64 (numV xs a k)) (fun _ i => n - (intOf i).toNat)
  case atStart => exact ⟨0, Nat.zero_le _, rfl, rfl⟩
  case round =>
    obtain ⟨k, hk, rfl, rfl⟩ := hrel
    by_cases hlt : k < n
    · obtain ⟨v, hv⟩ : ∃ v, v = numV xs a k := ⟨_, rfl⟩
      have hb := numV_small xs a k (by omega)
      rw [← hv] at hb ⊢
      obtain ⟨hb1, hb2⟩ := hb
      obtain ⟨b, off, x, rfl, hbB, hx, hc⟩ := h.byte (show a + k < l by omega)
      have bx := x.toNat_lt
      have HS : Hid (numV xs a (k + 1) = v * 256 + (x.toNat : Int)) := Lib.hid (by rw [hv]; simp [numV, List.getD, hx])
      have HV := Lib.hid hv
      clear hv h hx
      go_wp2
      go_round
      case rel => exact ⟨k + 1, by omega, by go_num, by rw [HS.out]⟩
      case measure => simp [intOf] <;> omega
    · go_wp2
      go_ret
      have : k = n := by omega
      exact ⟨ret_i (by rw [HR.out, this]), rfl⟩
theorem numberAtS_any (A : Option Addr) (l c B : Nat) (xs : List UInt8) (a n : Int) (w : World) (h : Rd w B A l (bv xs)) (hl : l ≤ 140737488355328) :
    Calls Try.prog 54 #[.slice A l c, .int .i64 a, .int .i64 n] w fun e w' => e = .returned (.int .i64 (numAt xs a n)) ∧ w = w' := by
  by_cases hv : 1 ≤ n ∧ n ≤ 4 ∧ 0 ≤ a ∧ a ≤ (l : Int) - n
  · obtain ⟨n', rfl⟩ := Int.eq_ofNat_of_zero_le (show 0 ≤ n by omega)
    obtain ⟨a', rfl⟩ := Int.eq_ofNat_of_zero_le (show 0 ≤ a by omega)
    exact numberAtS_yes A l c B xs a' n' w h hl (by omega) (by omega) (by omega)
  · exact numberAtS_no A l c xs a n w (rd_len h) hl hv
end Go.Proofs.Ytnlhfjdkhkmaeaa
namespace Go.Proofs.Ytnlhfjdkhkmaeaa
open Go.ChangeShapes Go.WideShapes Go.ChangeAt Go.RowKit
theorem fill_back {v : Nat} {n q : Nat} (hq : q < n) :
    (List.replicate (q + 1) (Value.int .u8 0) ++ bv (beB v (n - 1 - q))).set q (.int .u8 ((v / 256 ^ (n - 1 - q) % 256 : Nat) : Int)) = List.replicate q (.int .u8 0) ++ bv (beB v (n - q)) := by
  have e : n - q = 1 + (n - 1 - q) := by omega
  rw [e, beB_snoc, bv_append, List.replicate_succ', List.append_assoc, List.set_append_right _ _ (by simp)]
  simp [beB, bv, bval]
theorem bytesOf_impl (v n : Int) (w : World) (hv : v ≤ 9223372036854775807) :
    Calls Try.prog 41 #[.int .i64 v, .int .i64 n] w (RetB w.heap.size (bytesOf v n) w) := by
  rcases h2 : inB n 1 4 with _ | _
  · have HR : Hid (bytesOf v n = []) := Lib.hid (by have := inB_nif.1 h2; unfold bytesOf; rw [if_neg (by omega)])
    by_cases h3 : v < 0
    all_goals
      go_enter Try.func41, Try.ntmps41
      go_wp2_with (go_at_call 67; refine (isWidth_any _ _).mono ?_; rintro e w' ⟨rfl, rfl⟩)
      go_ret
      exact ⟨none, 0, 0, rfl, by rw [HR.out]; exact World.ownsRow_nil _ _ _ _, Below.refl _ _⟩
  by_cases h3 : v < 0
  · have HR : Hid (bytesOf v n = []) := Lib.hid (by unfold bytesOf; rw [if_neg (by omega)])
    go_enter Try.func41, Try.ntmps41
    go_wp2_with (go_at_call 67; refine (isWidth_any _ _).mono ?_; rintro e w' ⟨rfl, rfl⟩)
    go_ret
    exact ⟨none, 0, 0, rfl, by rw [HR.out]; exact World.ownsRow_nil _ _ _ _, Below.refl _ _⟩
  obtain ⟨n1, n2⟩ := inB_iff.1 h2
  obtain ⟨m, rfl⟩ := Int.eq_ofNat_of_zero_le (show 0 ≤ n by omega)
  obtain ⟨u, rfl⟩ := Int.eq_ofNat_of_zero_le (show 0 ≤ v by omega)
  obtain ⟨i0, hi, hz0, hz1, hz2⟩ := info_parts Try.info5
  go_enter Try.func41, Try.ntmps41
  go_wp2_with (first | (go_at_call 67; refine (isWidth_any _ _).mono ?_; rintro e w' ⟨rfl, rfl⟩) | (at_make; refine wpList_make_full _ rfl _ _ 22 rfl w.heap.size 5 i0 (.int .u8 0) 1 Try.underlying22 hi hz0 hz1 .i64 .i64 m m m rfl rfl rfl rfl (by rw [hz2]; omega) (by unfold maxLen; omega) (by simp) ?_; intro w1 hown1 hgrow1))
  go_loopw [6, 7] (fun r i wr => ∃ q : Int, -1 ≤ q ∧ q < m ∧ i = .int .i64 q ∧ r = .int .i64 ((u / 256 ^ (m - 1 - q).toNat : Nat) : Int) ∧ wr.ownsRow w.heap.size 5 1 (.slice (some ⟨w.heap.size, 0, none⟩) m m) m (List.replicate (q + 1).toNat (.int .u8 0) ++ bv (beB u (m - 1 - q).toNat)) ∧ Below w.heap.size w wr) (fun _ i _ => (intOf i + 1).toNat)
  case atStart =>
    refine ⟨m - 1, by omega, by omega, by go_num, ?_, ?_, (Below.refl _ _).grown hgrow1 (Nat.le_refl _) (by simp)⟩
    · have e : ((m : Int) - 1 - (m - 1)).toNat = 0 := by omega
      rw [e]; simp
    · have hc1 : (Value.int .u8 0).cells = #[.int .u8 0] := rfl
      have e : ((m : Int) - 1 - (m - 1)).toNat = 0 := by omega
      have e2 : ((m : Int) - 1 + 1).toNat = m := by omega
      rw [hc1, Nat.mul_one, made_one] at hown1
      rw [e, e2]
      simpa [beB, bv] using hown1
  case round =>
    obtain ⟨q, hq1, hq2, rfl, rfl, hown, hb⟩ := hrel
    by_cases hlt : 0 ≤ q
    · obtain ⟨p, rfl⟩ := Int.eq_ofNat_of_zero_le hlt
      have e1 : ((m : Int) - 1 - p).toNat = m - 1 - p := by omega
      have e2 : ((p : Int) + 1).toNat = p + 1 := by omega
      rw [e1, e2] at hown
      rw [e1]
      obtain ⟨r, hr⟩ : ∃ r, r = u / 256 ^ (m - 1 - p) := ⟨_, rfl⟩
      have hru : r ≤ u := by rw [hr]; exact Nat.div_le_self _ _
      have hf : wr.frozen? ⟨w.heap.size, p, none⟩ = false := hown.frozenAt p
      have hs := (hown.stored p (.int .u8 ((r % 256 : Nat) : Int))).1
      rw [hr, fill_back (by omega), ← hr] at hs
      rw [← hr]
      obtain ⟨u', hu'⟩ : ∃ u', wr.cell? ⟨w.heap.size, p, none⟩ = some u' := by
        rw [hown.cellAt p (by omega)]
        refine ⟨_, List.getElem?_eq_getElem ?_⟩
        have := hown.1
        omega
      have HS := Lib.hid hs
      have HR := Lib.hid hr
      have hb2 := hb.setCell (p := ⟨w.heap.size, p, none⟩) (Nat.le_refl _) (.int .u8 ((r % 256 : Nat) : Int))
      clear hs hr hown hb e1 e2
      go_wp2
      go_roundw
      case rel =>
        refine ⟨(p : Int) - 1, by omega, by omega, by go_num, ?_, ?_, ?_⟩
        · have e : ((m : Int) - 1 - (p - 1)).toNat = (m - 1 - p) + 1 := by omega
          rw [e, HR.out, Nat.pow_succ, ← Nat.div_div_eq_div_mul]
          go_num
        · have e : ((m : Int) - 1 - (p - 1)).toNat = m - p := by omega
          have e2 : ((p : Int) - 1 + 1).toNat = p := by omega
          rw [e, e2]
          first | exact HS.out | (have h := HS.out; simpa using h)
        · first | exact hb2 | (simpa using hb2)
      case measure => simp [intOf] <;> omega
    · obtain rfl : q = -1 := by omega
      have e1 : ((m : Int) - 1 - (-1)).toNat = m := by omega
      have e2 : ((-1 : Int) + 1).toNat = 0 := by omega
      rw [e1, e2] at hown
      rw [e1]
      rw [List.replicate_zero, List.nil_append] at hown
      obtain ⟨r, hr⟩ : ∃ r, r = u / 256 ^ m := ⟨_, rfl⟩
      have hru : r ≤ u := by rw [hr]; exact Nat.div_le_self _ _
      rw [← hr]
      have hP := Nat.pow_pos (n := m) (show 0 < 256 by omega)
      have hc : ((256 ^ m : Nat) : Int) = (256 : Int) ^ m := by simp
      by_cases h0 : 0 < r
      · have HB : Hid (bytesOf u m = []) := Lib.hid (by
          unfold bytesOf
          rw [if_neg]
          rintro ⟨_, _, _, h4⟩
          rw [Int.toNat_natCast, ← hc] at h4
          have : u / 256 ^ m = 0 := Nat.div_eq_of_lt (by omega)
          omega)
        clear hr hc hP
        go_wp2
        go_ret
        exact ⟨none, 0, 0, rfl, by rw [HB.out]; exact World.ownsRow_nil _ _ _ _, hb⟩
      · have HB : Hid (bytesOf u m = beB u m) := Lib.hid (by
          unfold bytesOf
          rw [if_pos, Int.toNat_natCast, Int.toNat_natCast]
          refine ⟨n1, n2, by omega, ?_⟩
          rw [Int.toNat_natCast, ← hc]
          have : u / 256 ^ m = 0 := by omega
          have := (Nat.div_eq_zero_iff.1 this).resolve_left (by omega)
          omega)
        clear hr hc hP
        go_wp2
        go_ret
        exact ⟨_, _, _, rfl, by rw [HB.out]; exact hown, hb⟩
end Go.Proofs.Ytnlhfjdkhkmaeaa
