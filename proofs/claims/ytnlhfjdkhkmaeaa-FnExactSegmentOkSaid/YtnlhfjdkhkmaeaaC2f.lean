import Derived.Test.YtnlhfjdkhkmaeaaC1a
import Derived.Test.YtnlhfjdkhkmaeaaMem
import Derived.Outline
import Derived.Laws.BytesArg
import Derived.Laws.IdiomStrings
import Derived.Test.YtnlhfjdkhkmaeaaNum
import Derived.Deep.RegionLaw
import Derived.Deep.RegionWith
import Derived.Deep.RegionHeld3
import Derived.Deep.DrawnRows
import Derived.Deep.QuietTactic
import Derived.BigQuiet
namespace Go.Proofs.Ytnlhfjdkhkmaeaa
open Go.ChangeShapes Go.WideShapes Go.ChangeAt Go.RowKit
theorem conv_rd {w : World} {B n : Nat} {A : Option Addr} {xs : List UInt8} (h : Rd w B A n (bv xs)) (c : Nat) :
    (convert 22 9 (.slice A n c)).run Try.prog w = .ok (.string ⟨xs.toArray⟩) w := by
  have hl := rd_len h
  subst hl
  rcases A with _ | a
  · have h0 : xs = [] := by
      rcases xs with _ | ⟨x, r⟩
      · rfl
      · obtain ⟨b, off, e, _⟩ := h.cells (by simp)
        cases e
    subst h0
    exact run_convert_bytes_nil _ _ _ Try.underlying22 Try.underlying5 _ _ _ Try.underlying9
  · refine run_convert_bytes_back w _ _ _ a c xs Try.underlying22 Try.underlying5 Try.underlying9 fun j hj => ?_
    obtain ⟨b, off, x, e, _, hx, hc⟩ := h.byte hj
    injection e with e
    subst e
    have ha : (⟨b, off, none⟩ : Addr).add j = ⟨b, off + j, none⟩ := by unfold Addr.add; split <;> simp_all
    rw [ha, hc, show xs[j] = x from by rw [List.getElem?_eq_getElem hj] at hx; exact Option.some.inj hx]
theorem sameBytes_any (A A' : Option Addr) (n n' c c' B : Nat) (xs ys : List UInt8) (w : World) (h : Rd w B A n (bv xs)) (h' : Rd w B A' n' (bv ys)) :
    Calls Try.prog 17 #[.slice A n c, .slice A' n' c'] w fun e w' => e = .returned (.bool (xs == ys)) ∧ w = w' := by
  have e1 := conv_rd h c
  have e2 := conv_rd h' c'
  clear h h'
  go_enter Try.func17, Try.ntmps17
  go_wp2
  go_ret
  exact ⟨rfl, rfl⟩
theorem alive_any (w : World) : Calls Try.prog 14 #[] w fun e w' => e = .returned (.bool true) ∧ Below w.heap.size w w' := by
  go_enter Try.func14, Try.ntmps14
  go_wp2_with fail
  refine (bytesOf_impl 5 1 _ (by decide)).mono ?_
  rintro e w1 ⟨A1, n1, c1, rfl, o1, b1⟩
  have l1 := own_len o1
  obtain rfl : n1 = 1 := l1
  go_wp2_with fail
  refine (bytesOf_impl 256 1 _ (by decide)).mono ?_
  rintro e w2 ⟨A2, n2, c2, rfl, o2, b2⟩
  have l2 := own_len o2
  obtain rfl : n2 = 0 := l2
  have bb := b1.trans (b2.mono b1.size)
  go_wp2
  go_ret
  exact ⟨rfl, bb⟩
end Go.Proofs.Ytnlhfjdkhkmaeaa
namespace Go.Proofs.Ytnlhfjdkhkmaeaa
open Go.ChangeShapes Go.WideShapes Go.ChangeAt Go.RowKit
theorem beB_one (u q j : Nat) : beB (u / 256 ^ (q + 1)) j ++ [UInt8.ofNat (u / 256 ^ q % 256)] = beB (u / 256 ^ q) (j + 1) := by
  simp only [beB]
  rw [Nat.div_div_eq_div_mul, ← Nat.pow_succ]
theorem bytesOfS_1 (z : Int) (u : Nat) (hz : z = u) (w : World) (h2 : inB 1 1 4 = true) (h3 : inB z 0 255 = true) :
    Calls Try.prog 48 #[.int .i64 z, .int .i64 1] w (RetB w.heap.size (beB u 1) w) := by
  obtain ⟨v1, v2⟩ := inB_iff.1 h3
  have HZ := Lib.hid hz
  clear hz
  go_enter Try.func48, Try.ntmps48
  go_wp2_with fail
  refine (l1In_any _ _ _ _).mono ?_; rintro e w' ⟨rfl, rfl⟩
  go_wp2_with fail
  refine (l1In_any _ _ _ _).mono ?_; rintro e w' ⟨rfl, rfl⟩
  go_wp2_with fail
  go_loopw [5, 6] (fun o i wr => ∃ q : Int, -1 ≤ q ∧ q < 1 ∧ i = .int .i64 q ∧ wr.ownsRow w.heap.size 5 1 o (1 - 1 - q).toNat (bv (beB (u / 256 ^ (q + 1).toNat) (1 - 1 - q).toNat)) ∧ Below w.heap.size w wr) (fun _ i _ => (intOf i + 1).toNat)
  case atStart =>
    refine ⟨0, by omega, by omega, rfl, ?_, (Below.refl _ _).alloc (Nat.le_refl _) _⟩
    exact World.ownsRow_made _ _ _ (Nat.le_refl _) (by simp [maxLen]) rfl
  case round =>
    obtain ⟨q, hq1, hq2, rfl, hown, hb⟩ := hrel
    rcases (show q = -1 ∨ q = 0 by omega) with rfl | rfl
    · go_wp2
      go_ret
      exact RetB.of_own (by simpa using hown) hb
    · have hsz := hb.size
      go_wp2_with (at_builtin; refine app_byte rfl _ _ rfl (hown.alloc _) rfl (y := z % 256) rfl (cell_new_one _ _ _) (by omega) (by omega) (by omega) (hb.alloc hb.size _) (Nat.le_refl _) (by simp; omega) ?_; intro v' w1 hown1 hb1 _; clear hown hb)
      go_roundw
      case rel =>
        refine ⟨-1, by omega, by omega, by go_num, ?_, hb1⟩
        have e := beB_one u 0 0
        have ey : (z % 256).toNat = u / 256 ^ 0 % 256 := by rw [HZ.out]; omega
        rw [ey] at hown1
        have e2 : (1 - 1 - (0 : Int)).toNat = 0 := by decide
        have e3 : ((0 : Int) + 1).toNat = 0 + 1 := by decide
        rw [e2, e3, e] at hown1
        exact hown1
      case measure => simp [intOf]
theorem bytesOfS_2 (z : Int) (u : Nat) (hz : z = u) (w : World) (h2 : inB 2 1 4 = true) (h3 : inB z 0 65535 = true) :
    Calls Try.prog 48 #[.int .i64 z, .int .i64 2] w (RetB w.heap.size (beB u 2) w) := by
  obtain ⟨v1, v2⟩ := inB_iff.1 h3
  have HZ := Lib.hid hz
  clear hz
  go_enter Try.func48, Try.ntmps48
  go_wp2_with fail
  refine (l1In_any _ _ _ _).mono ?_; rintro e w' ⟨rfl, rfl⟩
  go_wp2_with fail
  refine (l1In_any _ _ _ _).mono ?_; rintro e w' ⟨rfl, rfl⟩
  go_wp2_with fail
  go_loopw [5, 6] (fun o i wr => ∃ q : Int, -1 ≤ q ∧ q < 2 ∧ i = .int .i64 q ∧ wr.ownsRow w.heap.size 5 1 o (2 - 1 - q).toNat (bv (beB (u / 256 ^ (q + 1).toNat) (2 - 1 - q).toNat)) ∧ Below w.heap.size w wr) (fun _ i _ => (intOf i + 1).toNat)
  case atStart =>
    refine ⟨1, by omega, by omega, rfl, ?_, (Below.refl _ _).alloc (Nat.le_refl _) _⟩
    exact World.ownsRow_made _ _ _ (Nat.le_refl _) (by simp [maxLen]) rfl
  case round =>
    obtain ⟨q, hq1, hq2, rfl, hown, hb⟩ := hrel
    rcases (show q = -1 ∨ q = 0 ∨ q = 1 by omega) with rfl | rfl | rfl
    · go_wp2
      go_ret
      exact RetB.of_own (by simpa using hown) hb
    · have hsz := hb.size
      go_wp2_with (at_builtin; refine app_byte rfl _ _ rfl (hown.alloc _) rfl (y := z % 256) rfl (cell_new_one _ _ _) (by omega) (by omega) (by omega) (hb.alloc hb.size _) (Nat.le_refl _) (by simp; omega) ?_; intro v' w1 hown1 hb1 _; clear hown hb)
      go_roundw
      case rel =>
        refine ⟨-1, by omega, by omega, by go_num, ?_, hb1⟩
        have e := beB_one u 0 1
        have ey : (z % 256).toNat = u / 256 ^ 0 % 256 := by rw [HZ.out]; omega
        rw [ey] at hown1
        have e2 : (2 - 1 - (0 : Int)).toNat = 1 := by decide
        have e3 : ((0 : Int) + 1).toNat = 0 + 1 := by decide
        rw [e2, e3, e] at hown1
        exact hown1
      case measure => simp [intOf]
    · have hsz := hb.size
      go_wp2_with (at_builtin; refine app_byte rfl _ _ rfl (hown.alloc _) rfl (y := z / 256 % 256) rfl (cell_new_one _ _ _) (by omega) (by omega) (by omega) (hb.alloc hb.size _) (Nat.le_refl _) (by simp; omega) ?_; intro v' w1 hown1 hb1 _; clear hown hb)
      go_roundw
      case rel =>
        refine ⟨0, by omega, by omega, by go_num, ?_, hb1⟩
        have e := beB_one u 1 0
        have ey : (z / 256 % 256).toNat = u / 256 ^ 1 % 256 := by rw [HZ.out]; omega
        rw [ey] at hown1
        have e2 : (2 - 1 - (1 : Int)).toNat = 0 := by decide
        have e3 : ((1 : Int) + 1).toNat = 1 + 1 := by decide
        rw [e2, e3, e] at hown1
        exact hown1
      case measure => simp [intOf]
theorem bytesOfS_3 (z : Int) (u : Nat) (hz : z = u) (w : World) (h2 : inB 3 1 4 = true) (h3 : inB z 0 16777215 = true) :
    Calls Try.prog 48 #[.int .i64 z, .int .i64 3] w (RetB w.heap.size (beB u 3) w) := by
  obtain ⟨v1, v2⟩ := inB_iff.1 h3
  have HZ := Lib.hid hz
  clear hz
  go_enter Try.func48, Try.ntmps48
  go_wp2_with fail
  refine (l1In_any _ _ _ _).mono ?_; rintro e w' ⟨rfl, rfl⟩
  go_wp2_with fail
  refine (l1In_any _ _ _ _).mono ?_; rintro e w' ⟨rfl, rfl⟩
  go_wp2_with fail
  go_loopw [5, 6] (fun o i wr => ∃ q : Int, -1 ≤ q ∧ q < 3 ∧ i = .int .i64 q ∧ wr.ownsRow w.heap.size 5 1 o (3 - 1 - q).toNat (bv (beB (u / 256 ^ (q + 1).toNat) (3 - 1 - q).toNat)) ∧ Below w.heap.size w wr) (fun _ i _ => (intOf i + 1).toNat)
  case atStart =>
    refine ⟨2, by omega, by omega, rfl, ?_, (Below.refl _ _).alloc (Nat.le_refl _) _⟩
    exact World.ownsRow_made _ _ _ (Nat.le_refl _) (by simp [maxLen]) rfl
  case round =>
    obtain ⟨q, hq1, hq2, rfl, hown, hb⟩ := hrel
    rcases (show q = -1 ∨ q = 0 ∨ q = 1 ∨ q = 2 by omega) with rfl | rfl | rfl | rfl
    · go_wp2
      go_ret
      exact RetB.of_own (by simpa using hown) hb
    · have hsz := hb.size
      go_wp2_with (at_builtin; refine app_byte rfl _ _ rfl (hown.alloc _) rfl (y := z % 256) rfl (cell_new_one _ _ _) (by omega) (by omega) (by omega) (hb.alloc hb.size _) (Nat.le_refl _) (by simp; omega) ?_; intro v' w1 hown1 hb1 _; clear hown hb)
      go_roundw
      case rel =>
        refine ⟨-1, by omega, by omega, by go_num, ?_, hb1⟩
        have e := beB_one u 0 2
        have ey : (z % 256).toNat = u / 256 ^ 0 % 256 := by rw [HZ.out]; omega
        rw [ey] at hown1
        have e2 : (3 - 1 - (0 : Int)).toNat = 2 := by decide
        have e3 : ((0 : Int) + 1).toNat = 0 + 1 := by decide
        rw [e2, e3, e] at hown1
        exact hown1
      case measure => simp [intOf]
    · have hsz := hb.size
      go_wp2_with (at_builtin; refine app_byte rfl _ _ rfl (hown.alloc _) rfl (y := z / 256 % 256) rfl (cell_new_one _ _ _) (by omega) (by omega) (by omega) (hb.alloc hb.size _) (Nat.le_refl _) (by simp; omega) ?_; intro v' w1 hown1 hb1 _; clear hown hb)
      go_roundw
      case rel =>
        refine ⟨0, by omega, by omega, by go_num, ?_, hb1⟩
        have e := beB_one u 1 1
        have ey : (z / 256 % 256).toNat = u / 256 ^ 1 % 256 := by rw [HZ.out]; omega
        rw [ey] at hown1
        have e2 : (3 - 1 - (1 : Int)).toNat = 1 := by decide
        have e3 : ((1 : Int) + 1).toNat = 1 + 1 := by decide
        rw [e2, e3, e] at hown1
        exact hown1
      case measure => simp [intOf]
    · have hsz := hb.size
      go_wp2_with (at_builtin; refine app_byte rfl _ _ rfl (hown.alloc _) rfl (y := z / 65536 % 256) rfl (cell_new_one _ _ _) (by omega) (by omega) (by omega) (hb.alloc hb.size _) (Nat.le_refl _) (by simp; omega) ?_; intro v' w1 hown1 hb1 _; clear hown hb)
      go_roundw
      case rel =>
        refine ⟨1, by omega, by omega, by go_num, ?_, hb1⟩
        have e := beB_one u 2 0
        have ey : (z / 65536 % 256).toNat = u / 256 ^ 2 % 256 := by rw [HZ.out]; omega
        rw [ey] at hown1
        have e2 : (3 - 1 - (2 : Int)).toNat = 0 := by decide
        have e3 : ((2 : Int) + 1).toNat = 2 + 1 := by decide
        rw [e2, e3, e] at hown1
        exact hown1
      case measure => simp [intOf]
theorem bytesOfS_4 (z : Int) (u : Nat) (hz : z = u) (w : World) (h2 : inB 4 1 4 = true) (h3 : inB z 0 4294967295 = true) :
    Calls Try.prog 48 #[.int .i64 z, .int .i64 4] w (RetB w.heap.size (beB u 4) w) := by
  obtain ⟨v1, v2⟩ := inB_iff.1 h3
  have HZ := Lib.hid hz
  clear hz
  go_enter Try.func48, Try.ntmps48
  go_wp2_with fail
  refine (l1In_any _ _ _ _).mono ?_; rintro e w' ⟨rfl, rfl⟩
  go_wp2_with fail
  refine (l1In_any _ _ _ _).mono ?_; rintro e w' ⟨rfl, rfl⟩
  go_wp2_with fail
  go_loopw [5, 6] (fun o i wr => ∃ q : Int, -1 ≤ q ∧ q < 4 ∧ i = .int .i64 q ∧ wr.ownsRow w.heap.size 5 1 o (4 - 1 - q).toNat (bv (beB (u / 256 ^ (q + 1).toNat) (4 - 1 - q).toNat)) ∧ Below w.heap.size w wr) (fun _ i _ => (intOf i + 1).toNat)
  case atStart =>
    refine ⟨3, by omega, by omega, rfl, ?_, (Below.refl _ _).alloc (Nat.le_refl _) _⟩
    exact World.ownsRow_made _ _ _ (Nat.le_refl _) (by simp [maxLen]) rfl
  case round =>
    obtain ⟨q, hq1, hq2, rfl, hown, hb⟩ := hrel
    rcases (show q = -1 ∨ q = 0 ∨ q = 1 ∨ q = 2 ∨ q = 3 by omega) with rfl | rfl | rfl | rfl | rfl
    · go_wp2
      go_ret
      exact RetB.of_own (by simpa using hown) hb
    · have hsz := hb.size
      go_wp2_with (at_builtin; refine app_byte rfl _ _ rfl (hown.alloc _) rfl (y := z % 256) rfl (cell_new_one _ _ _) (by omega) (by omega) (by omega) (hb.alloc hb.size _) (Nat.le_refl _) (by simp; omega) ?_; intro v' w1 hown1 hb1 _; clear hown hb)
      go_roundw
      case rel =>
        refine ⟨-1, by omega, by omega, by go_num, ?_, hb1⟩
        have e := beB_one u 0 3
        have ey : (z % 256).toNat = u / 256 ^ 0 % 256 := by rw [HZ.out]; omega
        rw [ey] at hown1
        have e2 : (4 - 1 - (0 : Int)).toNat = 3 := by decide
        have e3 : ((0 : Int) + 1).toNat = 0 + 1 := by decide
        rw [e2, e3, e] at hown1
        exact hown1
      case measure => simp [intOf]
    · have hsz := hb.size
      go_wp2_with (at_builtin; refine app_byte rfl _ _ rfl (hown.alloc _) rfl (y := z / 256 % 256) rfl (cell_new_one _ _ _) (by omega) (by omega) (by omega) (hb.alloc hb.size _) (Nat.le_refl _) (by simp; omega) ?_; intro v' w1 hown1 hb1 _; clear hown hb)
      go_roundw
      case rel =>
        refine ⟨0, by omega, by omega, by go_num, ?_, hb1⟩
        have e := beB_one u 1 2
        have ey : (z / 256 % 256).toNat = u / 256 ^ 1 % 256 := by rw [HZ.out]; omega
        rw [ey] at hown1
        have e2 : (4 - 1 - (1 : Int)).toNat = 2 := by decide
        have e3 : ((1 : Int) + 1).toNat = 1 + 1 := by decide
        rw [e2, e3, e] at hown1
        exact hown1
      case measure => simp [intOf]
    · have hsz := hb.size
      go_wp2_with (at_builtin; refine app_byte rfl _ _ rfl (hown.alloc _) rfl (y := z / 65536 % 256) rfl (cell_new_one _ _ _) (by omega) (by omega) (by omega) (hb.alloc hb.size _) (Nat.le_refl _) (by simp; omega) ?_; intro v' w1 hown1 hb1 _; clear hown hb)
      go_roundw
      case rel =>
        refine ⟨1, by omega, by omega, by go_num, ?_, hb1⟩
        have e := beB_one u 2 1
        have ey : (z / 65536 % 256).toNat = u / 256 ^ 2 % 256 := by rw [HZ.out]; omega
        rw [ey] at hown1
        have e2 : (4 - 1 - (2 : Int)).toNat = 1 := by decide
        have e3 : ((2 : Int) + 1).toNat = 2 + 1 := by decide
        rw [e2, e3, e] at hown1
        exact hown1
      case measure => simp [intOf]
    · have hsz := hb.size
      go_wp2_with (at_builtin; refine app_byte rfl _ _ rfl (hown.alloc _) rfl (y := z / 16777216 % 256) rfl (cell_new_one _ _ _) (by omega) (by omega) (by omega) (hb.alloc hb.size _) (Nat.le_refl _) (by simp; omega) ?_; intro v' w1 hown1 hb1 _; clear hown hb)
      go_roundw
      case rel =>
        refine ⟨2, by omega, by omega, by go_num, ?_, hb1⟩
        have e := beB_one u 3 0
        have ey : (z / 16777216 % 256).toNat = u / 256 ^ 3 % 256 := by rw [HZ.out]; omega
        rw [ey] at hown1
        have e2 : (4 - 1 - (3 : Int)).toNat = 0 := by decide
        have e3 : ((3 : Int) + 1).toNat = 3 + 1 := by decide
        rw [e2, e3, e] at hown1
        exact hown1
      case measure => simp [intOf]
set_option maxRecDepth 100000 in
theorem bytesOfS_any (v n : Int) (w : World) :
    Calls Try.prog 48 #[.int .i64 v, .int .i64 n] w (RetB w.heap.size (bytesOf v n) w) := by
  rcases h2 : inB n 1 4 with _ | _
  · have HR : Hid (bytesOf v n = []) := Lib.hid (by have := inB_nif.1 h2; unfold bytesOf; rw [if_neg (by omega)])
    go_enter Try.func48, Try.ntmps48
    go_wp2_with (go_at_call 40; refine (l1In_any _ _ _ _).mono ?_; rintro e w' ⟨rfl, rfl⟩)
    go_ret
    exact ⟨_, _, _, rfl, by rw [HR.out]; exact World.ownsRow_made _ _ _ (Nat.le_refl _) (by simp [maxLen]) rfl, (Below.refl _ _).alloc (Nat.le_refl _) _⟩
  obtain ⟨n1, n2⟩ := inB_iff.1 h2
  obtain ⟨m, rfl⟩ := Int.eq_ofNat_of_zero_le (show 0 ≤ n by omega)
  obtain ⟨i0, hi, hz0, hz1, hz2⟩ := info_parts Try.info5
  rcases h3 : inB v 0 ((256 : Int) ^ m - 1) with _ | _
  · have HR : Hid (bytesOf v m = []) := Lib.hid (by
      have := inB_nif.1 h3
      unfold bytesOf; rw [if_neg (by rw [Int.toNat_natCast]; omega)])
    rcases (show m = 1 ∨ m = 2 ∨ m = 3 ∨ m = 4 by omega) with rfl | rfl | rfl | rfl
    all_goals
      simp only [show ((256 : Int) ^ 1 - 1) = 255 from rfl, show ((256 : Int) ^ 2 - 1) = 65535 from rfl, show ((256 : Int) ^ 3 - 1) = 16777215 from rfl, show ((256 : Int) ^ 4 - 1) = 4294967295 from rfl] at h3
      go_enter Try.func48, Try.ntmps48
      go_wp2_with (go_at_call 40; refine (l1In_any _ _ _ _).mono ?_; rintro e w' ⟨rfl, rfl⟩)
      go_ret
      exact ⟨_, _, _, rfl, by rw [HR.out]; exact World.ownsRow_made _ _ _ (Nat.le_refl _) (by simp [maxLen]) rfl, (Below.refl _ _).alloc (Nat.le_refl _) _⟩
  · obtain ⟨v1, v2⟩ := inB_iff.1 h3
    obtain ⟨u, rfl⟩ := Int.eq_ofNat_of_zero_le v1
    have HB : bytesOf u m = beB u m := by
      unfold bytesOf
      rw [if_pos, Int.toNat_natCast, Int.toNat_natCast]
      exact ⟨n1, n2, v1, by rw [Int.toNat_natCast]; omega⟩
    rw [HB]
    rcases (show m = 1 ∨ m = 2 ∨ m = 3 ∨ m = 4 by omega) with rfl | rfl | rfl | rfl
    · exact bytesOfS_1 u u rfl w h2 h3
    · exact bytesOfS_2 u u rfl w h2 h3
    · exact bytesOfS_3 u u rfl w h2 h3
    · exact bytesOfS_4 u u rfl w h2 h3
end Go.Proofs.Ytnlhfjdkhkmaeaa
namespace Go.Proofs.Ytnlhfjdkhkmaeaa
open Go.ChangeShapes Go.WideShapes Go.ChangeAt Go.RowKit
def frOk (t f k : Int) (n : Nat) : Bool := inB t 0 255 && inB f 0 254 && inB k 0 255 && decide (n ≤ 64)
end Go.Proofs.Ytnlhfjdkhkmaeaa
namespace Go.Proofs.Ytnlhfjdkhkmaeaa
def u8 (z : Int) : UInt8 := UInt8.ofNat z.toNat
def frHead (t f k : Int) (xs : List UInt8) : List UInt8 := [u8 t, u8 f, u8 k, u8 (xs.length : Nat)] ++ xs
end Go.Proofs.Ytnlhfjdkhkmaeaa
namespace Go.Proofs.Ytnlhfjdkhkmaeaa
open Go.ChangeShapes Go.WideShapes Go.ChangeAt Go.RowKit
def frBytes (t f k : Int) (xs : List UInt8) : List UInt8 := if frOk t f k xs.length then frHead t f k xs ++ bytesOf (sumOf (frHead t f k xs)) 2 else []
theorem RetB.nil {B : Nat} {w w' : World} (h : Below B w w') (c : Nat) (hc : c = 0) : RetB B [] w (.returned (.slice none 0 c)) w' := by
  subst hc
  exact ⟨none, 0, 0, rfl, World.ownsRow_nil _ _ _ _, h⟩
end Go.Proofs.Ytnlhfjdkhkmaeaa
namespace Go.Proofs.Ytnlhfjdkhkmaeaa
def frT0 (xs : List UInt8) : Int := ((xs.getD 0 0).toNat : Nat)
def frF0 (xs : List UInt8) : Int := ((xs.getD 1 0).toNat : Nat)
def frK0 (xs : List UInt8) : Int := ((xs.getD 2 0).toNat : Nat)
def frD0 (xs : List UInt8) : List UInt8 := (xs.drop 4).take (xs.length - 6)
def frFine (xs : List UInt8) : Bool := decide (6 ≤ xs.length) && (frBytes (frT0 xs) (frF0 xs) (frK0 xs) (frD0 xs) == xs)
end Go.Proofs.Ytnlhfjdkhkmaeaa
namespace Go.Proofs.Ytnlhfjdkhkmaeaa
open Go.ChangeShapes Go.WideShapes Go.ChangeAt Go.RowKit
def RetF (B : Nat) (t f k : Int) (d : List UInt8) (ok : Bool) (w : World) (e : Ending) (w' : World) : Prop :=
  ∃ A n c, e = .returned (.tuple #[.agg #[.int .i64 t, .int .i64 f, .int .i64 k, .slice A n c], .bool ok]) ∧ w'.ownsRow B 5 1 (.slice A n c) n (bv d) ∧ Below B w w'
def RetFr (xs : List UInt8) (B : Nat) (w : World) (e : Ending) (w' : World) : Prop :=
  (frFine xs = true ∧ RetF B (frT0 xs) (frF0 xs) (frK0 xs) (frD0 xs) true w e w') ∨ (frFine xs = false ∧ RetF B 0 0 0 [] false w e w')
theorem RetFr.no {xs : List UInt8} {B : Nat} {w w' : World} (h : frFine xs = false) (hb : Below B w w') :
    RetFr xs B w (.returned (.tuple #[.agg #[.int .i64 0, .int .i64 0, .int .i64 0, .slice none 0 0], .bool false])) w' :=
  .inr ⟨h, none, 0, 0, rfl, World.ownsRow_nil _ _ _ _, hb⟩
end Go.Proofs.Ytnlhfjdkhkmaeaa
namespace Go.Proofs.Ytnlhfjdkhkmaeaa
open Go.ChangeShapes Go.WideShapes Go.ChangeAt Go.RowKit
theorem RetB.empty {B : Nat} {w w' : World} (h : Below B w w') (hB : B ≤ w'.heap.size) : RetB B [] w (.returned (.slice (some ⟨w'.heap.size, 0, none⟩) 0 0)) (w'.alloc (.cells #[] 5)) :=
  ⟨_, 0, 0, rfl, own_empty w' B hB, h.alloc hB _⟩
end Go.Proofs.Ytnlhfjdkhkmaeaa
namespace Go.Proofs.Ytnlhfjdkhkmaeaa
open Go.ChangeShapes Go.WideShapes Go.ChangeAt Go.RowKit
end Go.Proofs.Ytnlhfjdkhkmaeaa
set_option linter.unusedVariables false
set_option linter.unusedSimpArgs false
namespace Go.Proofs.Ytnlhfjdkhkmaeaa
open Go.ChangeShapes Go.WideShapes Go.ChangeAt Go.RowKit
set_option linter.unusedSimpArgs false
structure PastW (w : World) (B : Nat) where
  wd : World
  below : Below B w wd
instance {w : World} {B : Nat} : Nonempty (PastW w B) := ⟨⟨w, Below.refl _ _⟩⟩
section
variable {w : World} {B : Nat}
theorem PastW.cell {a : Addr} {v : Value} (hb : a.block < B) (h : w.cell? a = some v) (p : PastW w B) : p.wd.cell? a = some v := (p.below.cell hb).trans h
theorem PastW.size (p : PastW w B) : w.heap.size ≤ p.wd.heap.size := p.below.size
theorem PastW.rd {n b : Nat} {A : Option Addr} {xs : List Value} (h : Rd w b A n xs) (hb : b ≤ B) (p : PastW w B) : Rd p.wd b A n xs := h.below (p.below.mono hb)
end
end Go.Proofs.Ytnlhfjdkhkmaeaa
namespace Go.Proofs.Ytnlhfjdkhkmaeaa
open Go.ChangeShapes Go.WideShapes Go.ChangeAt Go.RowKit
end Go.Proofs.Ytnlhfjdkhkmaeaa
