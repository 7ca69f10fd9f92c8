import Derived.Test.YtnnpijjdjdnffaaMem
import Derived.Test.YtnnpijjdjdnffaaNum
import Derived.Test.YtnnpijjdjdnffaaC1a
import Derived.Outline
import Derived.BigQuiet
import Derived.Deep.QuietTactic
namespace Go.Proofs.Ytnnpijjdjdnffaa
open Go.ChangeShapes Go.WideShapes Go.ChangeAt Go.RowKit

def pairVal (xs : List UInt8) (k : Nat) : Int := 256 * ((xs.getD k 0).toNat : Int) + ((xs.getD (k + 1) 0).toNat : Int)
theorem pairVal_bd (xs : List UInt8) (k : Nat) : 0 ≤ pairVal xs k ∧ pairVal xs k ≤ 65535 := by
  have h1 := (xs.getD k 0).toNat_lt; have h2 := (xs.getD (k + 1) 0).toNat_lt; unfold pairVal; omega

theorem pairAt_any (A : Option Addr) (n c B k : Nat) (xs : List UInt8) (w : World) (h : Rd w B A n (bv xs)) (hn : n ≤ 140737488355328) (hk : k < n) :
    Calls Try.prog 78 #[.slice A n c, .int .i64 k] w fun e w' => e = .returned (.int .i64 (pairVal xs k)) ∧ w = w' := by
  have hlen : n = xs.length := by have := h.len; rw [bv_len] at this; omega
  obtain ⟨b, off, x, rfl, hbB, hx, hc⟩ := h.byte hk
  have bx := x.toNat_lt
  by_cases h2 : k + 1 < n
  · obtain ⟨b', off', y, he, hbB', hy, hc'⟩ := h.byte h2
    obtain ⟨rfl, rfl⟩ : b = b' ∧ off = off' := by simpa using he
    have by' := y.toNat_lt
    have HR := Lib.hid (show pairVal xs k = 256 * (x.toNat : Int) + (y.toNat : Int) by simp [pairVal, List.getD, hx, hy])
    clear h he hx hy hlen
    go_enter Try.func78, Try.ntmps78
    go_wp2
    go_ret
    exact ⟨ret_i (by rw [HR.out]; omega), rfl⟩
  · have HR := Lib.hid (show pairVal xs k = 256 * (x.toNat : Int) by
      simp [pairVal, List.getD, hx, List.getElem?_eq_none (show xs.length ≤ k + 1 by omega)])
    clear h hx hlen
    go_enter Try.func78, Try.ntmps78
    go_wp2
    go_ret
    exact ⟨ret_i (by rw [HR.out]; omega), rfl⟩

theorem pk_over (xs : List UInt8) (k : Nat) (h : xs.length ≤ k) : pk xs k = pk xs xs.length := by
  induction k with
  | zero =>
    have : xs.length = 0 := by omega
    rw [this]
  | succ k ih =>
    by_cases hk : xs.length ≤ k
    · rw [← ih hk]
      show pk xs k + wt k (xs.getD k 0) = _
      have : xs.getD k 0 = 0 := by simp [List.getD, List.getElem?_eq_none hk]
      rw [this]
      simp [wt]
    · have : xs.length = k + 1 := by omega
      rw [this]
theorem can_pair (xs : List UInt8) (k : Nat) (h : k % 2 = 0) : sAdd (can (pk xs k)) (pairVal xs k) = can (pk xs (k + 2)) := by
  have h1 := (xs.getD k 0).toNat_lt; have h2 := (xs.getD (k + 1) 0).toNat_lt
  have e : pairVal xs k = ((256 * (xs.getD k 0).toNat + (xs.getD (k + 1) 0).toNat : Nat) : Int) := by simp [pairVal]
  rw [e, can_add _ _ (by omega)]
  show _ = can (pk xs k + wt k (xs.getD k 0) + wt (k + 1) (xs.getD (k + 1) 0))
  rw [wt_even h, wt_odd (by omega)]
  congr 1
  omega

theorem sumOf_impl (A : Option Addr) (n c B : Nat) (xs : List UInt8) (w : World) (h : Rd w B A n (bv xs)) (hn : n ≤ 140737488355328) :
    Calls Try.prog 53 #[.slice A n c] w fun e w' => e = .returned (.int .i64 (sumOf xs)) ∧ w = w' := by
  have hlen : n = xs.length := by have := h.len; rw [bv_len] at this; omega
  have HL := Lib.hid hlen
  clear hlen
  go_enter Try.func53, Try.ntmps53
  go_wp2
  go_loop [3, 4] (fun s i => ∃ k : Nat, k % 2 = 0 ∧ k ≤ n + 1 ∧ i = .int .i64 k ∧ s = .int .i64 (can (pk xs k))) (fun _ i => n + 1 - (intOf i).toNat)
  case atStart => exact ⟨0, rfl, by omega, rfl, rfl⟩
  case round =>
    obtain ⟨k, hk2, hk, rfl, rfl⟩ := hrel
    have hcb := can_bd (pk xs k)
    have hpb := pairVal_bd xs k
    by_cases hlt : k < n
    · have HS := Lib.hid (can_pair xs k hk2)
      have HK := Lib.hid hk2
      clear hk2
      go_wp2_with (first | (go_at_call 78; refine (pairAt_any _ _ _ _ _ _ _ h hn hlt).mono ?_; rintro e w' ⟨rfl, rfl⟩) | (go_at_call 77; refine (sumAdd_any _ _ _ hcb hpb).mono ?_; rintro e w' ⟨rfl, rfl⟩))
      go_round
      case rel => exact ⟨k + 2, by have := HK.out; omega, by omega, by go_num, by rw [HS.out]⟩
      case measure => simp [intOf] <;> omega
    · have HK := Lib.hid hk2
      clear hk2
      go_wp2
      go_ret
      exact ⟨ret_i (by unfold sumOf; rw [pk_over xs k (by have := HL.out; omega)]), rfl⟩

theorem l1Sum_any (A : Option Addr) (n c B : Nat) (xs : List UInt8) (w : World) (h : Rd w B A n (bv xs)) (hn : n ≤ 140737488355328) :
    Calls Try.prog 79 #[.slice A n c] w fun e w' => e = .returned (.int .i64 (can (pk xs xs.length))) ∧ w = w' := by
  have hlen : n = xs.length := by have := h.len; rw [bv_len] at this; omega
  have HL := Lib.hid hlen
  clear hlen
  go_enter Try.func79, Try.ntmps79
  go_wp2
  go_loop [3, 4] (fun s i => ∃ k : Nat, k ≤ n ∧ i = .int .i64 k ∧ s = .int .i64 (can (pk xs k))) (fun _ i => n - (intOf i).toNat)
  case atStart => exact ⟨0, Nat.zero_le _, rfl, rfl⟩
  case round =>
    obtain ⟨k, hk, rfl, rfl⟩ := hrel
    obtain ⟨s, hs⟩ : ∃ s, s = can (pk xs k) := ⟨_, rfl⟩
    have hcb := can_bd (pk xs k)
    rw [← hs] at hcb ⊢
    by_cases hlt : k < n
    · obtain ⟨b, off, x, rfl, hbB, hx, hc⟩ := h.byte hlt
      have bx := x.toNat_lt
      have hst : sAdd s (wt k x : Nat) = can (pk xs (k + 1)) := by
        rw [hs, can_add _ _ (by have := wt_le k x; omega)]
        show _ = can (pk xs k + wt k (xs.getD k 0))
        have : xs.getD k 0 = x := by simp [List.getD, hx]
        rw [this]
      have HS := Lib.hid hst
      clear hst hs h hx
      by_cases hk2 : k % 2 = 0
      · have ht : ((k : Int) % 2 == 0) = true := by simp; omega
        have hw : wt k x = 256 * x.toNat := wt_even hk2 x
        have HW := Lib.hid hw
        have HK := Lib.hid hk2
        clear hw hk2
        by_cases ho : 65535 < s + (x.toNat : Int) * 256
        all_goals
          go_wp2
          go_round
          case rel => exact ⟨k + 1, by omega, by go_num, by rw [← HS.out, HW.out]; first | (rw [sAdd_hi (by omega)] <;> go_num) | (rw [sAdd_lo (by omega)] <;> go_num)⟩
          case measure => simp [intOf] <;> omega
      · have ht : ((k : Int) % 2 == 0) = false := by simp; omega
        have hw : wt k x = x.toNat := wt_odd (by omega) x
        have HW := Lib.hid hw
        have HK := Lib.hid hk2
        clear hw hk2
        by_cases ho : 65535 < s + (x.toNat : Int)
        all_goals
          go_wp2
          go_round
          case rel => exact ⟨k + 1, by omega, by go_num, by rw [← HS.out, HW.out]; first | (rw [sAdd_hi (by omega)] <;> go_num) | (rw [sAdd_lo (by omega)] <;> go_num)⟩
          case measure => simp [intOf] <;> omega
    · have HS := Lib.hid hs
      clear hs
      go_wp2
      go_ret
      have : k = xs.length := by have := HL.out; omega
      exact ⟨ret_i (by rw [HS.out, this]), rfl⟩

theorem sumOf_spec (A : Option Addr) (n c B : Nat) (xs : List UInt8) (w : World) (h : Rd w B A n (bv xs)) (hn : n ≤ 140737488355328) :
    Calls Try.prog 56 #[.slice A n c] w fun e w' => e = .returned (.int .i64 (sumOf xs)) ∧ w = w' := by
  have hcb := can_bd (pk xs xs.length)
  go_enter Try.func56, Try.ntmps56
  go_wp2_with (go_at_call 79; refine (l1Sum_any _ _ _ _ _ _ h hn).mono ?_; rintro e w' ⟨rfl, rfl⟩)
  go_ret
  exact ⟨rfl, rfl⟩
end Go.Proofs.Ytnnpijjdjdnffaa
