import Derived.Test.YtnnpijjdjdnffabLw
import Derived.Test.YtnnpijjdjdnffabMem2
namespace Go.Proofs.Ytnnpijjdjdnffab
open Go.ChangeShapes Go.WideShapes Go.ChangeAt Go.RowKit

/-- the bytes k, k + 1, .. that the marker writes -/
def marks (k : Nat) : Nat → List UInt8
  | 0 => []
  | j + 1 => marks k j ++ [UInt8.ofNat ((k + j) % 256)]
theorem marks_len (k j : Nat) : (marks k j).length = j := by
  induction j with
  | zero => rfl
  | succ j ih => simp [marks, ih]
theorem marks_take (k j m : Nat) (h : j ≤ m) : (marks k m).take j = marks k j := by
  induction m with
  | zero => obtain rfl : j = 0 := by omega
            rfl
  | succ m ih =>
    by_cases hj : j = m + 1
    · subst hj
      exact List.take_of_length_le (by rw [marks_len]; omega)
    · rw [marks, List.take_append_of_le_length (by rw [marks_len]; omega)]
      exact ih (by omega)
theorem marks_at (k j m : Nat) (h : j < m) : (marks k m)[j]? = some (UInt8.ofNat ((k + j) % 256)) := by
  have e := marks_take k (j + 1) m (by omega)
  have : ((marks k m).take (j + 1))[j]? = (marks k m)[j]? := by rw [List.getElem?_take, if_pos (by omega)]
  rw [← this, e, marks, List.getElem?_append_right (by rw [marks_len]; omega), marks_len]
  simp
theorem mark_step {xs : List UInt8} {k j : Nat} (hj : j < xs.length) :
    ((bv (marks k j)) ++ (bv xs).drop j).set j (.int .u8 (((k + j) % 256 : Nat) : Int)) = bv (marks k (j + 1)) ++ (bv xs).drop (j + 1) := by
  have hl : (bv (marks k j)).length = j := by rw [bv_len, marks_len]
  rw [List.set_append_right _ _ (by omega), hl, Nat.sub_self]
  have hd : (bv xs).drop j = (bv xs)[j]'(by rw [bv_len]; exact hj) :: (bv xs).drop (j + 1) := List.drop_eq_getElem_cons _
  rw [hd, List.set_cons_zero, marks, bv_append, List.append_assoc]
  simp [bv, bval]

theorem markByteS_any (A : Option Addr) (n c base k : Nat) (xs : List UInt8) (w : World) (h : w.ownsRow base 5 1 (.slice A n c) n (bv xs)) (hn : n ≤ 1099511627776) (hk : k ≤ 1099511627776) :
    Calls Try.prog 33 #[.slice A n c, .int .i64 k] w fun e w' => e = .returned (.int .i64 ((k + n : Nat) : Int)) ∧ w'.ownsRow base 5 1 (.slice A n c) n (bv (marks k n)) ∧ Below base w w' ∧ w.grownBy w' (Value.slice A n c).ownBlock := by
  have hlen := own_len h
  have HL := Lib.hid hlen
  clear hlen
  go_enter Try.func33, Try.ntmps33
  go_wp2
  go_loopw [1, 5] (fun q i wr => ∃ j : Nat, j ≤ n ∧ i = .int .i64 j ∧ q = .int .i64 ((k + j : Nat) : Int) ∧ wr.ownsRow base 5 1 (.slice A n c) n (bv (marks k j) ++ (bv xs).drop j) ∧ Below base w wr ∧ w.grownBy wr (Value.slice A n c).ownBlock) (fun _ i _ => n - (intOf i).toNat)
  case atStart => exact ⟨0, Nat.zero_le _, rfl, rfl, by simpa [marks, bv] using h, Below.refl _ _, World.grownBy.refl _ _⟩
  case round =>
    obtain ⟨j, hj, rfl, rfl, hown, hb, hg⟩ := hrel
    by_cases hlt : j < n
    · rcases hown.2 with ⟨h0, h00⟩ | ⟨g, cap, cur, hv, hbg, hh, _⟩
      · omega
      obtain ⟨rfl, rfl⟩ : A = some ⟨g, 0, none⟩ ∧ c = cap := by injection hv; exact ⟨by assumption, by assumption⟩
      have hf : wr.frozen? ⟨g, j, none⟩ = false := hown.frozenAt j
      have hs := hown.stored j (.int .u8 (((k + j) % 256 : Nat) : Int))
      rw [mark_step (by have := HL.out; omega)] at hs
      obtain ⟨u', hu'⟩ : ∃ u', wr.cell? ⟨g, j, none⟩ = some u' := by
        rw [hown.cellAt j (by omega)]
        refine ⟨_, List.getElem?_eq_getElem ?_⟩
        have := hown.1
        omega
      have HS := Lib.hid hs
      have hb2 := hb.setCell (p := ⟨g, j, none⟩) hbg (.int .u8 (((k + j) % 256 : Nat) : Int))
      have hg2 : w.grownBy (wr.setCell ⟨g, j, none⟩ (.int .u8 (((k + j) % 256 : Nat) : Int))) (some g) :=
        grown_tr hg hs.2
      clear hs hown hb hv hh h hg
      go_wp2
      go_roundw
      case rel => exact ⟨j + 1, by omega, by go_num, by go_num, by first | exact HS.out.1 | (have h := HS.out.1; simpa using h), by first | exact hb2 | (simpa using hb2), by first | exact hg2 | (simpa using hg2)⟩
      case measure => simp [intOf] <;> omega
    · go_wp2
      go_ret
      have hjn : j = n := by omega
      rw [hjn, List.drop_eq_nil_of_le (by rw [bv_len]; have := HL.out; omega), List.append_nil] at hown
      exact ⟨ret_i (by omega), hown, hb, hg⟩

/-- who looks for the marks finds them, or not -/
theorem heldByteS_any (A : Option Addr) (n c B k : Nat) (w : World) (h : Rd w B A n (bv (marks k n))) (hn : n ≤ 1099511627776) (hk : k ≤ 1099511627776) :
    Calls Try.prog 70 #[.slice A n c, .int .i64 k] w fun e w' => e = .returned (.int .i64 ((k + n : Nat) : Int)) ∧ w = w' := by
  go_enter Try.func70, Try.ntmps70
  go_wp2
  go_loop [1, 5] (fun q i => ∃ j : Nat, j ≤ n ∧ i = .int .i64 j ∧ q = .int .i64 ((k + j : Nat) : Int)) (fun _ i => n - (intOf i).toNat)
  case atStart => exact ⟨0, Nat.zero_le _, rfl, rfl⟩
  case round =>
    obtain ⟨j, hj, rfl, rfl⟩ := hrel
    by_cases hlt : j < n
    · obtain ⟨b, off, x, rfl, hbB, hx, hc⟩ := h.byte hlt
      rw [marks_at k j n hlt] at hx
      have hx2 : (x.toNat : Int) = (((k + j) % 256 : Nat) : Int) := by
        rw [← Option.some.inj hx]; simp
      rw [hx2] at hc
      clear h hx hx2
      have ht : ((((k + j) % 256 : Nat) : Int) != (((k + j) % 256 : Nat) : Int)) = false := by simp
      go_wp2
      go_round
      case rel => exact ⟨j + 1, by omega, by go_num, by go_num⟩
      case measure => simp [intOf] <;> omega
    · go_wp2
      go_ret
      have hjn : j = n := by omega
      exact ⟨ret_i (by omega), rfl⟩
end Go.Proofs.Ytnnpijjdjdnffab
