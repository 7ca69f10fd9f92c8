import Derived.Test.YtkfjaeoehhakpaaMem
import Derived.Outline
import Derived.BigQuiet
import Derived.Deep.QuietTactic
import Derived.Test.YtkfjaeoehhakpaaC2f
namespace Go.Proofs.Ytkfjaeoehhakpaa
open Go.ChangeShapes Go.WideShapes Go.ChangeAt Go.RowKit
theorem toByteS_any (A : Option Addr) (n c : Nat) (xs : List UInt8) (w : World) (h : Rd w w.heap.size A n (bv xs)) (hn : n ≤ 140737488355328) :
    Calls Try.prog 16 #[.slice A n c] w (RetB w.heap.size xs w) := by
  obtain ⟨i0, hi, hz0, hz1, hz2⟩ := info_parts Try.info5
  have hlen : n = xs.length := by have := h.len; rw [bv_len] at this; omega
  have HL := Lib.hid hlen
  clear hlen
  go_enter Try.func16, Try.ntmps16
  go_wp2_with (at_make; refine wpList_make_full _ rfl _ _ 22 rfl w.heap.size 5 i0 (.int .u8 0) 1 Try.underlying22 hi hz0 hz1 .i64 .i64 n n n rfl rfl rfl rfl (by rw [hz2]; omega) (by unfold maxLen; omega) (by simp) ?_; intro w1 hown1 hgrow1)
  go_loopw [4] (fun i wr => ∃ k : Nat, k ≤ n ∧ i = .int .i64 k ∧ wr.ownsRow w.heap.size 5 1 (.slice (some ⟨w.heap.size, 0, none⟩) n n) n ((bv xs).take k ++ List.replicate (n - k) (.int .u8 0)) ∧ Below w.heap.size w wr) (fun i _ => n - (intOf i).toNat)
  case atStart =>
    refine ⟨0, Nat.zero_le _, rfl, ?_, (Below.refl _ _).grown hgrow1 (Nat.le_refl _) (by simp)⟩
    have hc1 : (Value.int .u8 0).cells = #[.int .u8 0] := rfl
    rw [hc1, Nat.mul_one, made_one] at hown1
    simpa using hown1
  case round =>
    obtain ⟨k, hk, rfl, hown, hb⟩ := hrel
    by_cases hlt : k < n
    · obtain ⟨b, off, x, rfl, hbB, hx, hc0⟩ := h.byte hlt
      have hc : wr.cell? ⟨b, off + k, none⟩ = some (.int .u8 (x.toNat : Int)) := (hb.cell (p := ⟨b, off + k, none⟩) hbB).trans hc0
      have hf : wr.frozen? ⟨w.heap.size, k, none⟩ = false := hown.frozenAt k
      have hs := hown.stored k (.int .u8 (x.toNat : Int))
      rw [fill_step HL.out hx] at hs
      obtain ⟨hs1, hs2⟩ := hs
      have hHS := Lib.hid hs1
      have hfr := hown.cellAt k (by omega)
      have hb2 := hb.setCell (p := ⟨w.heap.size, k, none⟩) (Nat.le_refl _) (.int .u8 (x.toNat : Int))
      obtain ⟨u, hu⟩ : ∃ u, wr.cell? ⟨w.heap.size, k, none⟩ = some u := by
        rw [hfr]
        refine ⟨_, List.getElem?_eq_getElem ?_⟩
        have := hown.1
        omega
      clear hs1 hs2 hown hb hfr h hx hc0
      go_wp2
      go_roundw
      case rel => exact ⟨k + 1, by omega, by go_num, hHS.out, hb2⟩
      case measure => simp [intOf] <;> omega
    · clear h
      go_wp2
      go_ret
      have hkn : k = n := by omega
      rw [hkn, Nat.sub_self, List.replicate_zero, List.append_nil, List.take_of_length_le (by rw [bv_len, ← HL.out]; omega)] at hown
      exact ⟨_, _, _, rfl, hown, hb⟩
theorem eqByteS_any (A A' : Option Addr) (n n' c c' B : Nat) (xs ys : List UInt8) (w : World) (h : Rd w B A n (bv xs)) (h' : Rd w B A' n' (bv ys)) (hn : n ≤ 140737488355328) (hn' : n' ≤ 140737488355328) :
    Calls Try.prog 18 #[.slice A n c, .slice A' n' c'] w fun e w' => e = .returned (.bool (xs == ys)) ∧ Below w.heap.size w w' := by
  have hlen : n = xs.length := by have := h.len; rw [bv_len] at this; omega
  have hlen' : n' = ys.length := by have := h'.len; rw [bv_len] at this; omega
  have HL := Lib.hid hlen
  have HL' := Lib.hid hlen'
  by_cases hne : n = n'
  · subst hne
    go_enter Try.func18, Try.ntmps18
    go_wp2
    go_loopw [5] (fun i wr => ∃ k : Nat, k ≤ n ∧ i = .int .i64 k ∧ xs.take k = ys.take k ∧ ∃ d, wr = w.drewN d) (fun i _ => n - (intOf i).toNat)
    case atStart => exact ⟨0, Nat.zero_le _, rfl, rfl, 0, rfl⟩
    case round =>
      obtain ⟨k, hk, rfl, htk, d, rfl⟩ := hrel
      by_cases hlt : k < n
      · obtain ⟨b, off, x, rfl, hbB, hx, hc⟩ := h.byte hlt
        obtain ⟨b', off', y, rfl, hbB', hy, hc'⟩ := h'.byte hlt
        clear h h'
        have HT := Lib.hid htk
        clear htk
        by_cases hxy : x = y
        · subst hxy
          have ht : ((x.toNat : Int) != (x.toNat : Int)) = false := by simp
          go_wp2
          go_region
          go_wp2
          go_roundw
          case rel => exact ⟨k + 1, by omega, by go_num, take_snoc_eq HT.out hx hy, by go_simp; exact ⟨_, rfl⟩⟩
          case measure => simp [intOf] <;> omega
        · have ht : ((x.toNat : Int) != (y.toNat : Int)) = true := by
            have : x.toNat ≠ y.toNat := fun e => hxy (UInt8.toNat_inj.1 e)
            simp; omega
          have hR := Lib.hid (ne_at hx hy hxy)
          go_wp2
          go_region
          go_wp2
          go_ret
          exact ⟨ret_b hR.out.symm, below_drawn _ _ _⟩
      · have hkn : n = k := by omega
        have hR := Lib.hid (eq_full htk (by omega) (by omega))
        go_wp2
        go_ret
        exact ⟨ret_b hR.out.symm, below_drawn _ _ _⟩
  · have ht : ((n : Int) != (n' : Int)) = true := by simp; omega
    have hR := Lib.hid (ne_len (xs := xs) (ys := ys) (by omega))
    go_enter Try.func18, Try.ntmps18
    go_wp2
    go_ret
    exact ⟨ret_b hR.out.symm, Below.refl _ _⟩
end Go.Proofs.Ytkfjaeoehhakpaa
namespace Go.Proofs.Ytkfjaeoehhakpaa
open Go.ChangeShapes Go.WideShapes Go.ChangeAt Go.RowKit
def marks (k : Nat) : Nat → List UInt8
  | 0 => []
  | j + 1 => marks k j ++ [UInt8.ofNat ((k + j) % 256)]
theorem marks_len (k j : Nat) : (marks k j).length = j := by
  induction j with
  | zero => rfl
  | succ j ih => simp [marks, ih]
theorem marks_take (k j m : Nat) (h : j ≤ m) : (marks k m).take j = marks k j := by
  induction m with
  | zero => obtain rfl : j = 0 := by omega
            rfl
  | succ m ih =>
    by_cases hj : j = m + 1
    · subst hj
      exact List.take_of_length_le (by rw [marks_len]; omega)
    · rw [marks, List.take_append_of_le_length (by rw [marks_len]; omega)]
      exact ih (by omega)
theorem marks_at (k j m : Nat) (h : j < m) : (marks k m)[j]? = some (UInt8.ofNat ((k + j) % 256)) := by
  have e := marks_take k (j + 1) m (by omega)
  have : ((marks k m).take (j + 1))[j]? = (marks k m)[j]? := by rw [List.getElem?_take, if_pos (by omega)]
  rw [← this, e, marks, List.getElem?_append_right (by rw [marks_len]; omega), marks_len]
  simp
theorem heldByteS_any (A : Option Addr) (n c B k : Nat) (w : World) (h : Rd w B A n (bv (marks k n))) (hn : n ≤ 1099511627776) (hk : k ≤ 1099511627776) :
    Calls Try.prog 24 #[.slice A n c, .int .i64 k] w fun e w' => e = .returned (.int .i64 ((k + n : Nat) : Int)) ∧ w = w' := by
  go_enter Try.func24, Try.ntmps24
  go_wp2
  go_loop [1, 5] (fun q i => ∃ j : Nat, j ≤ n ∧ i = .int .i64 j ∧ q = .int .i64 ((k + j : Nat) : Int)) (fun _ i => n - (intOf i).toNat)
  case atStart => exact ⟨0, Nat.zero_le _, rfl, rfl⟩
  case round =>
    obtain ⟨j, hj, rfl, rfl⟩ := hrel
    by_cases hlt : j < n
    · obtain ⟨b, off, x, rfl, hbB, hx, hc⟩ := h.byte hlt
      rw [marks_at k j n hlt] at hx
      have hx2 : (x.toNat : Int) = (((k + j) % 256 : Nat) : Int) := by
        rw [← Option.some.inj hx]; simp
      rw [hx2] at hc
      clear h hx hx2
      have ht : ((((k + j) % 256 : Nat) : Int) != (((k + j) % 256 : Nat) : Int)) = false := by simp
      go_wp2
      go_round
      case rel => exact ⟨j + 1, by omega, by go_num, by go_num⟩
      case measure => simp [intOf] <;> omega
    · go_wp2
      go_ret
      have hjn : j = n := by omega
      exact ⟨ret_i (by omega), rfl⟩
end Go.Proofs.Ytkfjaeoehhakpaa
namespace Go.Proofs.Ytkfjaeoehhakpaa
open Go.ChangeShapes Go.WideShapes Go.ChangeAt Go.RowKit
abbrev fr4 (t f k : Int) (A : Option Addr) (n c : Nat) : Value := .agg #[.int .i64 t, .int .i64 f, .int .i64 k, .slice A n c]
def szLeft (l : Int) (n : Nat) : Int := if l - (n : Int) < 0 then -1 else l - (n : Int)
end Go.Proofs.Ytkfjaeoehhakpaa
