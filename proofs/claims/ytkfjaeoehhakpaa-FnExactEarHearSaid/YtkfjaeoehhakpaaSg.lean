import Derived.Test.YtkfjaeoehhakpaaSc
import Derived.Test.YtkfjaeoehhakpaaC1a
import Derived.Test.YtkfjaeoehhakpaaC2f
namespace Go.Proofs.Ytkfjaeoehhakpaa
open Go.RowKit
set_option linter.unusedSimpArgs false
theorem rd_of_rep {w : World} {xs : List UInt8} {sz : Nat} {v : Value} (h : Rep w (Zold w) (.l sz (rowsOfBytes xs)) v) : ∃ A n c, v = .slice A n c ∧ Rd w w.heap.size A n (bv xs) ∧ n ≤ c := by
  generalize hd : D.l sz (rowsOfBytes xs) = d at h
  cases h with
  | v x ho => cases hd
  | e sz' A c =>
    injection hd with _ e
    have : xs = [] := by rw [← bytesOf_rows xs, e]; rfl
    subst this
    exact ⟨A, 0, c, rfl, ⟨rfl, fun h => absurd h (by omega)⟩, Nat.zero_le _⟩
  | l sz' rows b off n c u hn hc hs hz hcell hrep =>
    injection hd with e1 e2
    subst e2
    have hl : xs.length = n := by rw [← rowsOf_len xs]; exact hn
    refine ⟨_, n, c, rfl, ⟨by rw [bv_len]; exact hl, fun _ => ⟨b, off, rfl, hz, fun j y hy => ?_⟩⟩, hc⟩
    rw [bv_at] at hy
    cases hx : xs[j]? with
    | none => simp [hx] at hy
    | some x =>
      simp [hx] at hy
      subst hy
      have hj : j < xs.length := (List.getElem?_eq_some_iff.1 hx).1
      have hr : rowAt (rowsOfBytes xs) j 0 = some (.v (bval x)) := by
        simp only [rowAt, rowsOfBytes, List.getElem?_map, hx]
        rfl
      have h1 : sz' = 1 := by
        rw [← hs _ (List.getElem_mem (by rw [rowsOf_len]; exact hj)), rowsOf_w xs _ (List.getElem_mem (by rw [rowsOf_len]; exact hj))]
      subst h1
      have k1 := hcell j 0 _ hr
      have k2 := hrep j 0 _ hr
      rw [Nat.mul_one, Nat.add_zero] at k1
      rw [k1]
      generalize u j 0 = y at k2
      cases k2
      rfl
section
variable {P : Program}
theorem PureOk.of_retB {f : FuncId} {g : PC} (there : ∃ fn c, P.funcs[f]? = some fn ∧ (fn.name == "runtime.NumGoroutine") = false ∧ fn.body = some c)
    (h : ∀ (w : World) (args : List AV) (vs : List Value) (c : Prop) (r : AV) (bs : List Blk), ARel w (Zold w) (fun _ => .none) (fun _ => nilS) args vs → g args = some (c, r, bs) → c → ∃ xs, r = .own 0 ∧ bs = [.sl 5 1 (rowsOfBytes xs)] ∧ Calls P f vs.toArray w (RetB w.heap.size xs w)) : PureOk P f g := by
  refine ⟨there, fun w args vs c r bs hargs hg hc => ?_⟩
  obtain ⟨xs, rfl, rfl, hcall⟩ := h w args vs c r bs hargs hg hc
  refine ⟨⟨rfl, by simpa [flatB] using rowsOf_flat xs, by simp [AV.ids]⟩, hcall.mono ?_⟩
  rintro e w' ⟨A, n, c, rfl, ho, hb⟩
  have hn := own_len ho
  have hvb : ∀ g, vblk (.slice A n c) = some g → w.heap.size ≤ g ∧ g < w'.heap.size := fun g hg => by
    rcases ho.2 with ⟨hv, _⟩ | ⟨g', cap, cur, hv, hg', hh, _⟩
    · rw [hv] at hg; cases hg
    · rw [hv] at hg
      simp [vblk] at hg
      subst hg
      exact ⟨hg', (Array.getElem?_eq_some_iff.1 hh).1⟩
  have hlk : ∀ r, (lk (hpAt 0 [Blk.sl 5 1 (rowsOfBytes xs)]) r).live → r = 0 := fun r hr => by
    by_cases e : r = 0
    · exact e
    · simp [hpAt, lk, e, Blk.live] at hr
  have hpl : ∀ r g, (lk (hpAt 0 [Blk.sl 5 1 (rowsOfBytes xs)]) r).live → Fp w' (lk (hpAt 0 [Blk.sl 5 1 (rowsOfBytes xs)]) r) (.slice A n c) g → vblk (.slice A n c) = some g := fun r g hr hg => by
    rw [hlk r hr] at hg; exact hg
  refine ⟨.slice A n c, fun _ => .slice A n c, Zold w, rfl, ⟨fun r => ?_, fun r r' g h1 h2 _ _ => by rw [hlk r h1, hlk r' h2], fun r g h1 hg hz => ?_, fun r g h1 hg => ⟨.inr (hvb g (hpl r g h1 hg)).1, (hvb g (hpl r g h1 hg)).2⟩, fun b hb' => Nat.lt_of_lt_of_le hb' hb.size, below_kept hb, fun b hb => .inl hb, fun b hb => hb⟩, ?_⟩
  · by_cases e : r = 0
    · subst e
      refine ⟨by omega, rowsOf_w xs, bv xs, ?_, fun i j d hd => ?_⟩
      · rw [rowsOf_len, ← hn]
        exact ownsAt_of ho
      · simp only [rowAt, rowsOfBytes, List.getElem?_map] at hd
        cases hx : xs[i]? with
        | none => simp [hx] at hd
        | some x =>
          simp [hx] at hd
          cases j with
          | zero =>
            simp at hd
            subst hd
            exact ⟨bval x, by rw [Nat.mul_one, Nat.add_zero, bv_at, hx]; rfl, .v _ rfl⟩
          | succ j => simp at hd
    · simp [hpAt, lk, e, BlkR]
  · exact absurd hz (Nat.not_lt.2 (hvb g (hpl r g h1 hg)).1)
  · refine .own 0 _ 5 1 (rowsOfBytes xs) rfl rfl ⟨A, c, ?_⟩
    rw [rowsOf_len, ← hn]
end
theorem arg_l {w : World} {sz : Nat} {rows : List (List D)} {vs : List Value} (h : ARel w (Zold w) (fun _ => .none) (fun _ => nilS) [.l sz rows] vs) : ∃ v, vs = [v] ∧ Rep w (Zold w) (.l sz rows) v := by
  obtain ⟨hl, hr⟩ := h
  match vs, hl, hr with
  | [v], _, hr =>
    have := hr 0 _ v rfl rfl
    cases this with
    | l _ _ _ h => exact ⟨v, rfl, h⟩
end Go.Proofs.Ytkfjaeoehhakpaa
