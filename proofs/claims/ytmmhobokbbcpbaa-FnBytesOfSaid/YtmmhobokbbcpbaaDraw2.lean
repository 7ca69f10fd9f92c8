import Derived.Test.YtmmhobokbbcpbaaDraw
namespace Go.Proofs.Ytmmhobokbbcpbaa
open Go.ChangeShapes Go.WideShapes Go.ChangeAt Go.RowKit

theorem Rdr.lt {w : World} {g B p : Nat} (h : Rdr w g B p) : g < w.heap.size := by
  obtain ⟨_, _, _, _, hh, _⟩ := h
  exact (Array.getElem?_eq_some_iff.1 hh).1
theorem Rdr.le {w : World} {g B p : Nat} (h : Rdr w g B p) : B ≤ g := by
  obtain ⟨_, _, _, _, _, _, hB, _⟩ := h
  exact hB
theorem Rdr.below {w w' : World} {g B p C : Nat} (h : Rdr w g B p) (hb : Below C w w') (hC : g < C) : Rdr w' g B p := by
  obtain ⟨A, l, c, xs, hh, hr, hB, hl⟩ := h
  exact ⟨A, l, c, xs, (hb.block g hC).trans hh, hr.below (hb.mono (by omega)), hB, hl⟩
theorem Rdr.kept {w w' : World} {g B p : Nat} {row : Option Nat} (h : Rdr w g B p) (hg : w.grownBy w' row) (hne : row ≠ some g) (hB : ∀ k, row = some k → B ≤ k) : Rdr w' g B p := by
  have hlt := h.lt
  obtain ⟨A, l, c, xs, hh, hr, hBg, hl⟩ := h
  refine ⟨A, l, c, xs, (hg.block g hlt (fun e => hne e.symm)).trans hh, hr.keep fun q hq => ?_, hBg, hl⟩
  exact World.cell?_of_block (hg.block q.block (by omega) (fun e => by have := hB _ e.symm; omega))
theorem Rdr.alloc {w : World} {g B p : Nat} (h : Rdr w g B p) (o : Obj) : Rdr (w.alloc o) g B p :=
  h.kept (World.grownBy_alloc w o none) (by simp) (by simp)

/-- an owned row of bytes is never the reader's block -/
theorem own_rdr_ne {w : World} {g B p base n : Nat} {v : Value} {xs : List Value} (h : w.ownsRow base 5 1 v n xs) (hr : Rdr w g B p) : v.ownBlock ≠ some g := by
  obtain ⟨_, _, _, _, hh, _⟩ := hr
  rcases h.2 with ⟨rfl, _⟩ | ⟨g', cap, cur, rfl, _, hg, _⟩
  · simp [Value.ownBlock]
  · intro e
    obtain rfl : g' = g := by simpa [Value.ownBlock] using e
    rw [hg] at hh
    injection hh with hh
    injection hh with _ ht
    exact absurd ht (by decide)
theorem own_pick {w w' : World} {g B p base n : Nat} {v : Value} {xs : List Value} (h : w.ownsRow base 5 1 v n xs) (hr : Rdr w g B p) (hg : w.grownBy w' (some g)) : w'.ownsRow base 5 1 v n xs :=
  h.kept hg (.inr (own_rdr_ne h hr))
theorem grown_own {a w w' : World} {g base n : Nat} {v : Value} {e : TypeId} {xs : List Value} (h : a.grownBy w (some g)) (ho : w.ownsRow base e 1 v n xs) (hb : a.heap.size ≤ base) (k : w.grownBy w' v.ownBlock) : a.grownBy w' (some g) :=
  ⟨k.os.trans h.os, k.tape.trans h.tape, k.output.trans h.output, Nat.le_trans h.size k.size, fun i hi hne =>
    (k.block i (Nat.lt_of_lt_of_le hi h.size) (fun e => by have := (ho.lt i e.symm).1; omega)).trans (h.block i hi hne)⟩
theorem grown_alloc' {a w : World} {g : Nat} (h : a.grownBy w (some g)) (o : Obj) : a.grownBy (w.alloc o) (some g) :=
  ⟨h.os, h.tape, h.output, Nat.le_trans h.size (by simp), fun i hi hne => (Below.heap_alloc w o i (Nat.lt_of_lt_of_le hi h.size)).trans (h.block i hi hne)⟩
theorem below_pick {a w w' : World} {g C : Nat} (h : Below C a w) (k : w.grownBy w' (some g)) (hg : C ≤ g) (hC : C ≤ w.heap.size) : Below C a w' :=
  h.grown k hC (fun i hi => by injection hi with hi; omega)

theorem open_any (A : Option Addr) (n c : Nat) (xs : List UInt8) (w : World) (h : Rd w w.heap.size A n (bv xs)) (hc : n ≤ c) :
    Calls Try.prog 34 #[.slice A n c] w fun e w' => e = .returned (.pointer (some ⟨w.heap.size, 0, none⟩)) ∧ Rdr w' w.heap.size w.heap.size 0 ∧ Below w.heap.size w w' := by
  by_cases hn : 2000 < n
  · have hr : Rd w w.heap.size A 2000 (bv (xs.take 2000)) := by
      refine ⟨by rw [bv_len, List.length_take]; have := rd_len h; omega, fun _ => ?_⟩
      obtain ⟨b, off, e, hb, hcell⟩ := h.cells (by omega)
      refine ⟨b, off, e, hb, fun j u hu => hcell j u ?_⟩
      rw [bv_take, List.getElem?_take] at hu
      split at hu
      · exact hu
      · cases hu
    go_enter Try.func34, Try.ntmps34
    go_wp2
    go_ret
    exact ⟨rfl, ⟨_, _, _, _, heap_alloc_new _ _, (hr.below ((Below.refl _ _).alloc (Nat.le_refl _) _)), Nat.le_refl _, Nat.le_refl _⟩, (Below.refl _ _).alloc (Nat.le_refl _) _⟩
  · go_enter Try.func34, Try.ntmps34
    go_wp2
    go_ret
    exact ⟨rfl, ⟨_, _, _, _, heap_alloc_new _ _, (h.below ((Below.refl _ _).alloc (Nat.le_refl _) _)), Nat.le_refl _, by omega⟩, (Below.refl _ _).alloc (Nat.le_refl _) _⟩

theorem word_any (g B p : Nat) (w : World) (h : Rdr w g B p) (hp : p ≤ 1099511627000) :
    Calls Try.prog 35 #[.pointer (some ⟨g, 0, none⟩)] w fun e w' => ∃ r : Int, ∃ p' : Nat, e = .returned (.int .i64 r) ∧ 0 ≤ r ∧ r ≤ 65535 ∧ p' ≤ p + 3 ∧ Rdr w' g B p' ∧ w.grownBy w' (some g) := by
  go_enter Try.func35, Try.ntmps35
  go_wp2_with fail
  refine (pick_any g B p 4 _ h (by omega)).mono ?_
  rintro e w1 ⟨r, rfl, r1, r2, -, R1, g1⟩
  have r2' := r2 (by omega)
  clear r2
  by_cases h0 : r = 0
  · have t0 : (r == 0) = true := by simp [h0]
    clear h0
    go_wp2_with fail
    refine (pick_any g B _ 3 _ R1 (by omega)).mono ?_
    rintro e w2 ⟨s, rfl, s1, s2, -, R2, g2⟩
    have s2' := s2 (by omega)
    clear s2
    go_wp2
    go_ret
    exact ⟨s, p + 1 + 1, rfl, s1, by omega, by omega, R2, grown_tr g1 g2⟩
  · have t0 : (r == 0) = false := by simp; omega
    clear h0
    by_cases h1 : r = 1
    · have t1 : (r == 1) = true := by simp [h1]
      clear h1
      go_wp2_with fail
      refine (pick_any g B _ 3 _ R1 (by omega)).mono ?_
      rintro e w2 ⟨s, rfl, s1, s2, -, R2, g2⟩
      have s2' := s2 (by omega)
      clear s2
      go_wp2
      go_ret
      exact ⟨65535 - s, p + 1 + 1, rfl, by omega, by omega, by omega, R2, grown_tr g1 g2⟩
    · have t1 : (r == 1) = false := by simp; omega
      clear h1
      go_wp2_with fail
      refine (pick_any g B _ 256 _ R1 (by omega)).mono ?_
      rintro e w2 ⟨s, rfl, s1, s2, -, R2, g2⟩
      have s2' := s2 (by omega)
      clear s2
      go_wp2_with fail
      refine (pick_any g B _ 256 _ R2 (by omega)).mono ?_
      rintro e w3 ⟨q, rfl, q1, q2, -, R3, g3⟩
      have q2' := q2 (by omega)
      clear q2
      go_wp2
      go_ret
      exact ⟨s * 256 + q, p + 1 + 1 + 1, rfl, by omega, by omega, by omega, R3, grown_tr (grown_tr g1 g2) g3⟩
end Go.Proofs.Ytmmhobokbbcpbaa
