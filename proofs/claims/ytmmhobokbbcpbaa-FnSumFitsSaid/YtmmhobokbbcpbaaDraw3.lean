import Derived.Test.YtmmhobokbbcpbaaDraw2
namespace Go.Proofs.Ytmmhobokbbcpbaa
open Go.ChangeShapes Go.WideShapes Go.ChangeAt Go.RowKit

def BytesPost (g B p m : Nat) (w : World) (e : Ending) (w' : World) : Prop :=
  ∃ A c xs p', e = .returned (.slice A m c) ∧ w'.ownsRow w.heap.size 5 1 (.slice A m c) m (bv xs) ∧ Rdr w' g B p' ∧ p' ≤ p + 2 * m ∧ w.grownBy w' (some g)

set_option maxHeartbeats 400000 in
theorem bytes_any (g B p m : Nat) (w : World) (h : Rdr w g B p) (hp : p ≤ 1099511600000) (hm : m ≤ 1000) :
    Calls Try.prog 39 #[.pointer (some ⟨g, 0, none⟩), .int .i64 (m : Int)] w (BytesPost g B p m w) := by
  have hlt := h.lt
  have hle := h.le
  go_enter Try.func39, Try.ntmps39
  go_wp2
  go_loopw [1, 5] (fun q o wr => ∃ k xs p', k ≤ m ∧ q = .int .i64 ((k : Nat) : Int) ∧ wr.ownsRow w.heap.size 5 1 o (m - k) (bv xs) ∧ Rdr wr g B p' ∧ p' ≤ p + 2 * (m - k) ∧ w.grownBy wr (some g)) (fun q _ _ => (intOf q).toNat)
  case atStart =>
    refine ⟨m, [], p, Nat.le_refl _, rfl, ?_, h.alloc _, by omega, World.grownBy_alloc _ _ _⟩
    rw [Nat.sub_self]
    exact own_empty _ _ (Nat.le_refl _)
  case round =>
    obtain ⟨k, xs, p', hk, rfl, ho, hR, hp', hg⟩ := hrel
    by_cases hk0 : 0 < k
    · have hsz := hg.size
      go_wp2_with fail
      refine (pick_any g B p' 3 _ hR (by omega)).mono ?_
      rintro e w1 ⟨r, rfl, r1, r2, -, R1, g1⟩
      have o1 := own_pick ho hR g1
      have hg1 := grown_tr hg g1
      have hsz1 := hg1.size
      clear ho hR r2
      by_cases h0 : r = 0
      · have t0 : (r == 0) = true := by simp [h0]
        clear h0
        go_wp2_with fail
        refine (pick_any g B _ 256 _ R1 (by omega)).mono ?_
        rintro e w2 ⟨s, rfl, s1, s2, -, R2, g2⟩
        have s2' := s2 (by omega)
        have o2 := own_pick o1 R1 g2
        have hg2 := grown_tr hg1 g2
        have hsz2 := hg2.size
        clear s2 o1
        go_wp2_with (at_builtin; refine app_byte rfl _ _ rfl (o2.alloc _) rfl (y := s) rfl (cell_new_one _ _ _) (by omega) (by omega) (by omega) (Below.refl 0 _) (Nat.zero_le _) (by simp; omega) ?_; intro v' w3 o3 _ g3)
        go_roundw
        case rel =>
          refine ⟨k - 1, _, p' + 1 + 1, by omega, by go_num, by rw [show m - (k - 1) = m - k + 1 by omega]; exact o3, ?_, by omega, ?_⟩
          · exact (R2.alloc _).kept g3 (own_rdr_ne o2 R2) (fun i hi => by have := own_block_ge o2 i hi; omega)
          · exact grown_own (grown_alloc' hg2 _) (o2.alloc _) (Nat.le_refl _) g3
        case measure => simp [intOf] <;> omega
      · have t0 : (r == 0) = false := by simp; omega
        clear h0
        go_wp2_with fail
        refine (pick_any g B _ 3 _ R1 (by omega)).mono ?_
        rintro e w2 ⟨s, rfl, s1, s2, -, R2, g2⟩
        have s2' := s2 (by omega)
        have o2 := own_pick o1 R1 g2
        have hg2 := grown_tr hg1 g2
        have hsz2 := hg2.size
        clear s2 o1
        go_wp2_with (at_builtin; refine app_byte rfl _ _ rfl (o2.alloc _) rfl (y := s + 97) rfl (cell_new_one _ _ _) (by omega) (by omega) (by omega) (Below.refl 0 _) (Nat.zero_le _) (by simp; omega) ?_; intro v' w3 o3 _ g3)
        go_roundw
        case rel =>
          refine ⟨k - 1, _, p' + 1 + 1, by omega, by go_num, by rw [show m - (k - 1) = m - k + 1 by omega]; exact o3, ?_, by omega, ?_⟩
          · exact (R2.alloc _).kept g3 (own_rdr_ne o2 R2) (fun i hi => by have := own_block_ge o2 i hi; omega)
          · exact grown_own (grown_alloc' hg2 _) (o2.alloc _) (Nat.le_refl _) g3
        case measure => simp [intOf] <;> omega
    · go_wp2
      go_ret
      have e : m - k = m := by omega
      rw [e] at ho
      obtain ⟨A, c, rfl⟩ := own_shape ho
      exact ⟨A, c, xs, p', rfl, ho, hR, by omega, hg⟩
end Go.Proofs.Ytmmhobokbbcpbaa
