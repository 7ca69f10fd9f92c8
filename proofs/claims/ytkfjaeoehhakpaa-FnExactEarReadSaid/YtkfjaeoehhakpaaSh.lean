import Derived.Test.YtkfjaeoehhakpaaSg
import Derived.Test.YtkfjaeoehhakpaaC2f
namespace Go.Proofs.Ytkfjaeoehhakpaa
open Go.RowKit
set_option linter.unusedSimpArgs false
end Go.Proofs.Ytkfjaeoehhakpaa
namespace Go.Proofs.Ytkfjaeoehhakpaa
open Go.RowKit
set_option linter.unusedSimpArgs false
theorem arg_ll {w : World} {sz sz' : Nat} {rows rows' : List (List D)} {vs : List Value} (h : ARel w (Zold w) (fun _ => .none) (fun _ => nilS) [.l sz rows, .l sz' rows'] vs) : ∃ u v, vs = [u, v] ∧ Rep w (Zold w) (.l sz rows) u ∧ Rep w (Zold w) (.l sz' rows') v := by
  obtain ⟨hl, hr⟩ := h
  match vs, hl, hr with
  | [u, v], _, hr =>
    have h1 := hr 0 _ u rfl rfl
    have h2 := hr 1 _ v rfl rfl
    cases h1 with
    | l _ _ _ h1 =>
      cases h2 with
      | l _ _ _ h2 => exact ⟨u, v, rfl, h1, h2⟩
end Go.Proofs.Ytkfjaeoehhakpaa
namespace Go.Proofs.Ytkfjaeoehhakpaa
open Go.RowKit
set_option linter.unusedSimpArgs false
theorem HR.of_own {w w' : World} {A : Option Addr} {n c : Nat} {xs : List UInt8} (ho : w'.ownsRow w.heap.size 5 1 (.slice A n c) n (bv xs)) (hb : Below w.heap.size w w') :
    HR (fun _ => False) ⟨w, Zold w⟩ w' (lk (hpAt 0 [Blk.sl 5 1 (rowsOfBytes xs)])) (fun _ => .slice A n c) (Zold w) ∧ AVR w' (Zold w) (lk (hpAt 0 [Blk.sl 5 1 (rowsOfBytes xs)])) (fun _ => .slice A n c) (.own 0) (.slice A n c) := by
  have hn := own_len ho
  have hvb : ∀ g, vblk (.slice A n c) = some g → w.heap.size ≤ g ∧ g < w'.heap.size := fun g hg => by
    rcases ho.2 with ⟨hv, _⟩ | ⟨g', cap, cur, hv, hg', hh, _⟩
    · rw [hv] at hg; cases hg
    · rw [hv] at hg
      simp [vblk] at hg
      subst hg
      exact ⟨hg', (Array.getElem?_eq_some_iff.1 hh).1⟩
  have hlk : ∀ r, (lk (hpAt 0 [Blk.sl 5 1 (rowsOfBytes xs)]) r).live → r = 0 := fun r hr => by
    by_cases e : r = 0
    · exact e
    · simp [hpAt, lk, e, Blk.live] at hr
  have hpl : ∀ r g, (lk (hpAt 0 [Blk.sl 5 1 (rowsOfBytes xs)]) r).live → Fp w' (lk (hpAt 0 [Blk.sl 5 1 (rowsOfBytes xs)]) r) (.slice A n c) g → vblk (.slice A n c) = some g := fun r g hr hg => by
    rw [hlk r hr] at hg; exact hg
  refine ⟨⟨fun r => ?_, fun r r' g h1 h2 _ _ => by rw [hlk r h1, hlk r' h2], fun r g h1 hg hz => ?_, fun r g h1 hg => ⟨.inr (hvb g (hpl r g h1 hg)).1, (hvb g (hpl r g h1 hg)).2⟩, fun b hb' => Nat.lt_of_lt_of_le hb' hb.size, below_kept hb, fun b hb => .inl hb, fun b hb => hb⟩, ?_⟩
  · by_cases e : r = 0
    · subst e
      refine ⟨by omega, rowsOf_w xs, bv xs, ?_, fun i j d hd => ?_⟩
      · rw [rowsOf_len, ← hn]
        exact ownsAt_of ho
      · simp only [rowAt, rowsOfBytes, List.getElem?_map] at hd
        cases hx : xs[i]? with
        | none => simp [hx] at hd
        | some x =>
          simp [hx] at hd
          cases j with
          | zero =>
            simp at hd
            subst hd
            exact ⟨bval x, by rw [Nat.mul_one, Nat.add_zero, bv_at, hx]; rfl, .v _ rfl⟩
          | succ j => simp at hd
    · simp [hpAt, lk, e, BlkR]
  · exact absurd hz (Nat.not_lt.2 (hvb g (hpl r g h1 hg)).1)
  · refine .own 0 _ 5 1 (rowsOfBytes xs) rfl rfl ⟨A, c, ?_⟩
    rw [rowsOf_len, ← hn]
end Go.Proofs.Ytkfjaeoehhakpaa
