import Derived.Test.YtikcpbgnmdhilaaMem
import Derived.Test.YtikcpbgnmdhilaaNum
import Derived.Outline
import Derived.BigQuiet
import Derived.Deep.QuietTactic
namespace Go.Proofs.Ytikcpbgnmdhilaa
open Go.ChangeShapes Go.WideShapes Go.ChangeAt Go.RowKit
def inB (n lo hi : Int) : Bool := decide (lo ≤ n ∧ n ≤ hi)
theorem inB_iff {n lo hi : Int} : inB n lo hi = true ↔ lo ≤ n ∧ n ≤ hi := by simp [inB]
theorem inB_nif {n lo hi : Int} : inB n lo hi = false ↔ n < lo ∨ hi < n := by simp [inB]; omega
end Go.Proofs.Ytikcpbgnmdhilaa
namespace Go.Proofs.Ytikcpbgnmdhilaa
open Go.ChangeShapes Go.WideShapes Go.ChangeAt Go.RowKit
end Go.Proofs.Ytikcpbgnmdhilaa
namespace Go.Proofs.Ytikcpbgnmdhilaa
open Go.ChangeShapes Go.WideShapes Go.ChangeAt Go.RowKit
def fits (xs : List UInt8) (s : Int) : Bool := decide (0 ≤ s ∧ s ≤ 65535 ∧ s % 65535 = sumOf xs % 65535)
end Go.Proofs.Ytikcpbgnmdhilaa
namespace Go.Proofs.Ytikcpbgnmdhilaa
open Go.ChangeShapes Go.WideShapes Go.ChangeAt Go.RowKit
theorem isWidth_any (v : Int) (w : World) :
    Calls Try.prog 48 #[.int .i64 v] w fun e w' => e = .returned (.bool (inB v 1 4)) ∧ w = w' := by
  by_cases h1 : 1 ≤ v <;> by_cases h2 : v ≤ 4
  all_goals
    go_enter Try.func48, Try.ntmps48
    go_wp2
    go_ret
    refine ⟨ret_b ?_, rfl⟩
    symm
    first
    | (rw [inB_iff]; omega)
    | (rw [inB_nif]; omega)
end Go.Proofs.Ytikcpbgnmdhilaa
namespace Go.Proofs.Ytikcpbgnmdhilaa
open Go.ChangeShapes Go.WideShapes Go.ChangeAt Go.RowKit
theorem fill_back {v : Nat} {n q : Nat} (hq : q < n) :
    (List.replicate (q + 1) (Value.int .u8 0) ++ bv (beB v (n - 1 - q))).set q (.int .u8 ((v / 256 ^ (n - 1 - q) % 256 : Nat) : Int)) = List.replicate q (.int .u8 0) ++ bv (beB v (n - q)) := by
  have e : n - q = 1 + (n - 1 - q) := by omega
  rw [e, beB_snoc, bv_append, List.replicate_succ', List.append_assoc, List.set_append_right _ _ (by simp)]
  simp [beB, bv, bval]
theorem bytesOf_impl (v n : Int) (w : World) (hv : v ≤ 9223372036854775807) :
    Calls Try.prog 37 #[.int .i64 v, .int .i64 n] w (RetB w.heap.size (bytesOf v n) w) := by
  rcases h2 : inB n 1 4 with _ | _
  · have HR : Hid (bytesOf v n = []) := Lib.hid (by have := inB_nif.1 h2; unfold bytesOf; rw [if_neg (by omega)])
    by_cases h3 : v < 0
    all_goals
      go_enter Try.func37, Try.ntmps37
      go_wp2_with (go_at_call 48; refine (isWidth_any _ _).mono ?_; rintro e w' ⟨rfl, rfl⟩)
      go_ret
      exact ⟨none, 0, 0, rfl, by rw [HR.out]; exact World.ownsRow_nil _ _ _ _, Below.refl _ _⟩
  by_cases h3 : v < 0
  · have HR : Hid (bytesOf v n = []) := Lib.hid (by unfold bytesOf; rw [if_neg (by omega)])
    go_enter Try.func37, Try.ntmps37
    go_wp2_with (go_at_call 48; refine (isWidth_any _ _).mono ?_; rintro e w' ⟨rfl, rfl⟩)
    go_ret
    exact ⟨none, 0, 0, rfl, by rw [HR.out]; exact World.ownsRow_nil _ _ _ _, Below.refl _ _⟩
  obtain ⟨n1, n2⟩ := inB_iff.1 h2
  obtain ⟨m, rfl⟩ := Int.eq_ofNat_of_zero_le (show 0 ≤ n by omega)
  obtain ⟨u, rfl⟩ := Int.eq_ofNat_of_zero_le (show 0 ≤ v by omega)
  obtain ⟨i0, hi, hz0, hz1, hz2⟩ := info_parts Try.info5
  go_enter Try.func37, Try.ntmps37
  go_wp2_with (first | (go_at_call 48; refine (isWidth_any _ _).mono ?_; rintro e w' ⟨rfl, rfl⟩) | (at_make; refine wpList_make_full _ rfl _ _ 22 rfl w.heap.size 5 i0 (.int .u8 0) 1 Try.underlying22 hi hz0 hz1 .i64 .i64 m m m rfl rfl rfl rfl (by rw [hz2]; omega) (by unfold maxLen; omega) (by simp) ?_; intro w1 hown1 hgrow1))
  go_loopw [6, 7] (fun r i wr => ∃ q : Int, -1 ≤ q ∧ q < m ∧ i = .int .i64 q ∧ r = .int .i64 ((u / 256 ^ (m - 1 - q).toNat : Nat) : Int) ∧ wr.ownsRow w.heap.size 5 1 (.slice (some ⟨w.heap.size, 0, none⟩) m m) m (List.replicate (q + 1).toNat (.int .u8 0) ++ bv (beB u (m - 1 - q).toNat)) ∧ Below w.heap.size w wr) (fun _ i _ => (intOf i + 1).toNat)
  case atStart =>
    refine ⟨m - 1, by omega, by omega, by go_num, ?_, ?_, (Below.refl _ _).grown hgrow1 (Nat.le_refl _) (by simp)⟩
    · have e : ((m : Int) - 1 - (m - 1)).toNat = 0 := by omega
      rw [e]; simp
    · have hc1 : (Value.int .u8 0).cells = #[.int .u8 0] := rfl
      have e : ((m : Int) - 1 - (m - 1)).toNat = 0 := by omega
      have e2 : ((m : Int) - 1 + 1).toNat = m := by omega
      rw [hc1, Nat.mul_one, made_one] at hown1
      rw [e, e2]
      simpa [beB, bv] using hown1
  case round =>
    obtain ⟨q, hq1, hq2, rfl, rfl, hown, hb⟩ := hrel
    by_cases hlt : 0 ≤ q
    · obtain ⟨p, rfl⟩ := Int.eq_ofNat_of_zero_le hlt
      have e1 : ((m : Int) - 1 - p).toNat = m - 1 - p := by omega
      have e2 : ((p : Int) + 1).toNat = p + 1 := by omega
      rw [e1, e2] at hown
      rw [e1]
      obtain ⟨r, hr⟩ : ∃ r, r = u / 256 ^ (m - 1 - p) := ⟨_, rfl⟩
      have hru : r ≤ u := by rw [hr]; exact Nat.div_le_self _ _
      have hf : wr.frozen? ⟨w.heap.size, p, none⟩ = false := hown.frozenAt p
      have hs := (hown.stored p (.int .u8 ((r % 256 : Nat) : Int))).1
      rw [hr, fill_back (by omega), ← hr] at hs
      rw [← hr]
      obtain ⟨u', hu'⟩ : ∃ u', wr.cell? ⟨w.heap.size, p, none⟩ = some u' := by
        rw [hown.cellAt p (by omega)]
        refine ⟨_, List.getElem?_eq_getElem ?_⟩
        have := hown.1
        omega
      have HS := Lib.hid hs
      have HR := Lib.hid hr
      have hb2 := hb.setCell (p := ⟨w.heap.size, p, none⟩) (Nat.le_refl _) (.int .u8 ((r % 256 : Nat) : Int))
      clear hs hr hown hb e1 e2
      go_wp2
      go_roundw
      case rel =>
        refine ⟨(p : Int) - 1, by omega, by omega, by go_num, ?_, ?_, ?_⟩
        · have e : ((m : Int) - 1 - (p - 1)).toNat = (m - 1 - p) + 1 := by omega
          rw [e, HR.out, Nat.pow_succ, ← Nat.div_div_eq_div_mul]
          go_num
        · have e : ((m : Int) - 1 - (p - 1)).toNat = m - p := by omega
          have e2 : ((p : Int) - 1 + 1).toNat = p := by omega
          rw [e, e2]
          first | exact HS.out | (have h := HS.out; simpa using h)
        · first | exact hb2 | (simpa using hb2)
      case measure => simp [intOf] <;> omega
    · obtain rfl : q = -1 := by omega
      have e1 : ((m : Int) - 1 - (-1)).toNat = m := by omega
      have e2 : ((-1 : Int) + 1).toNat = 0 := by omega
      rw [e1, e2] at hown
      rw [e1]
      rw [List.replicate_zero, List.nil_append] at hown
      obtain ⟨r, hr⟩ : ∃ r, r = u / 256 ^ m := ⟨_, rfl⟩
      have hru : r ≤ u := by rw [hr]; exact Nat.div_le_self _ _
      rw [← hr]
      have hP := Nat.pow_pos (n := m) (show 0 < 256 by omega)
      have hc : ((256 ^ m : Nat) : Int) = (256 : Int) ^ m := by simp
      by_cases h0 : 0 < r
      · have HB : Hid (bytesOf u m = []) := Lib.hid (by
          unfold bytesOf
          rw [if_neg]
          rintro ⟨_, _, _, h4⟩
          rw [Int.toNat_natCast, ← hc] at h4
          have : u / 256 ^ m = 0 := Nat.div_eq_of_lt (by omega)
          omega)
        clear hr hc hP
        go_wp2
        go_ret
        exact ⟨none, 0, 0, rfl, by rw [HB.out]; exact World.ownsRow_nil _ _ _ _, hb⟩
      · have HB : Hid (bytesOf u m = beB u m) := Lib.hid (by
          unfold bytesOf
          rw [if_pos, Int.toNat_natCast, Int.toNat_natCast]
          refine ⟨n1, n2, by omega, ?_⟩
          rw [Int.toNat_natCast, ← hc]
          have : u / 256 ^ m = 0 := by omega
          have := (Nat.div_eq_zero_iff.1 this).resolve_left (by omega)
          omega)
        clear hr hc hP
        go_wp2
        go_ret
        exact ⟨_, _, _, rfl, by rw [HB.out]; exact hown, hb⟩
end Go.Proofs.Ytikcpbgnmdhilaa
