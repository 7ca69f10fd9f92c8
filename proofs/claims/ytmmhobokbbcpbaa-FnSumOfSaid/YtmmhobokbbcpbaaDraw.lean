import Derived.Test.YtmmhobokbbcpbaaMem2
import Derived.Outline
import Derived.BigQuiet
import Derived.Deep.QuietTactic
import Derived.RegionTactic
import Derived.OneCell
import Derived.IntWalk
namespace Go.Proofs.Ytmmhobokbbcpbaa
open Go.ChangeShapes Go.WideShapes Go.ChangeAt Go.RowKit

/-- the reader of a code: its block g holds the bytes that it reads and how many it took -/
def Rdr (w : World) (g B p : Nat) : Prop :=
  ∃ A l c xs, w.heap[g]? = some (.cells #[.slice A l c, .int .i64 (p : Int)] 52 (0, 0)) ∧ Rd w B A l (bv xs) ∧ B ≤ g ∧ l ≤ 2000

theorem Rdr.step {w : World} {g B p : Nat} (h : Rdr w g B p) : Rdr (w.setCell ⟨g, 1, none⟩ (.int .i64 ((p : Int) + 1))) g B (p + 1) ∧ w.grownBy (w.setCell ⟨g, 1, none⟩ (.int .i64 ((p : Int) + 1))) (some g) := by
  obtain ⟨A, l, c, xs, hh, hr, hBg, hl⟩ := h
  refine ⟨⟨A, l, c, xs, ?_, ?_, hBg, hl⟩, ⟨rfl, rfl, rfl, by simp, fun k _ hk => heap_setCell_other w ⟨g, 1, none⟩ k _ (fun e => hk (by simp [e]))⟩⟩
  · rw [heap_setCell_same w g 1 _ _ _ hh]
    simp
  · exact hr.keep fun q hq => World.cell?_setCell_other w _ q _ (fun e => by subst e; simp at hq; omega)
theorem Rd.drewN {w : World} {B n : Nat} {A : Option Addr} {xs : List Value} (h : Rd w B A n xs) (d : Nat) : Rd (w.drewN d) B A n xs := h.keep fun _ _ => rfl
theorem Rdr.drewN {w : World} {g B p : Nat} (h : Rdr w g B p) (d : Nat) : Rdr (w.drewN d) g B p := by
  obtain ⟨A, l, c, xs, hh, hr, r⟩ := h
  exact ⟨A, l, c, xs, hh, hr.drewN d, r⟩
theorem grown_drewN {a w : World} {row : Option Nat} (h : a.grownBy w row) (d : Nat) : a.grownBy (w.drewN d) row := ⟨h.os, h.tape, h.output, h.size, h.block⟩
theorem xor_nonneg (X : Nat) (h : X < 9223372036854775808) : 0 ≤ bits .xor .i64 (X : Int) ((X / 64 : Nat) : Int) := by
  have hx : X ^^^ (X / 64) < 2 ^ 63 := Nat.xor_lt_two_pow (by omega) (by omega)
  have e1 : (BitVec.ofInt 64 (X : Int)).toNat = X := by rw [BitVec.ofInt_natCast, BitVec.toNat_ofNat]; exact Nat.mod_eq_of_lt (by omega)
  have e2 : (BitVec.ofInt 64 ((X / 64 : Nat) : Int)).toNat = X / 64 := by rw [BitVec.ofInt_natCast, BitVec.toNat_ofNat]; exact Nat.mod_eq_of_lt (by omega)
  show 0 ≤ IntKind.i64.wrap ((BitVec.ofInt 64 (X : Int) ^^^ BitVec.ofInt 64 ((X / 64 : Nat) : Int)).toNat : Int)
  rw [BitVec.toNat_xor, e1, e2, IntKind.wrap_i64]
  omega
def PickPost (g B p : Nat) (n : Int) (w : World) (e : Ending) (w' : World) : Prop :=
  ∃ r : Int, e = .returned (.int .i64 r) ∧ 0 ≤ r ∧ (1 ≤ n → r < n) ∧ (n < 1 → r = 0) ∧ Rdr w' g B (p + 1) ∧ w.grownBy w' (some g)
theorem pick_end {g B p : Nat} {n r : Int} {w : World} (S : Hid (Rdr (w.setCell ⟨g, 1, none⟩ (.int .i64 ((p : Int) + 1))) g B (p + 1) ∧ w.grownBy (w.setCell ⟨g, 1, none⟩ (.int .i64 ((p : Int) + 1))) (some g)))
    (h1 : 0 ≤ r) (h2 : 1 ≤ n → r < n) (h3 : n < 1 → r = 0) (d : Nat) : PickPost g B p n w (.returned (.int .i64 r)) ((w.setCell ⟨g, 1, none⟩ (.int .i64 ((p : Int) + 1))).drewN d) :=
  ⟨r, rfl, h1, h2, h3, S.out.1.drewN d, grown_drewN S.out.2 d⟩

theorem pick_any (g B p : Nat) (n : Int) (w : World) (h : Rdr w g B p) (hp : p ≤ 1099511627776) :
    Calls Try.prog 36 #[.pointer (some ⟨g, 0, none⟩), .int .i64 n] w (PickPost g B p n w) := by
  have HS := Lib.hid h.step
  obtain ⟨A, l, c, xs, hh, hr, hBg, hl⟩ := h
  have c0 : w.cell? ⟨g, 0, none⟩ = some (.slice A l c) := by rw [cell_of_row w g 0 _ _ _ hh]; rfl
  have c1 : w.cell? ⟨g, 1, none⟩ = some (.int .i64 (p : Int)) := by rw [cell_of_row w g 1 _ _ _ hh]; rfl
  have f1 : w.frozen? ⟨g, 1, none⟩ = false := frozen_of_row w g 1 _ _ hh
  by_cases hn : n < 1
  · clear hr hh
    go_enter Try.func36, Try.ntmps36
    go_wp2
    go_ret
    exact pick_end HS (Int.le_refl _) (by omega) (fun _ => rfl) 0
  by_cases h0 : l = 0
  · clear hr hh
    go_enter Try.func36, Try.ntmps36
    go_wp2
    go_ret
    exact pick_end HS (Int.le_refl _) (by omega) (fun _ => rfl) 0
  by_cases hpl : p < l
  · obtain ⟨b, off, x, rfl, hbB, hx, hc⟩ := hr.byte hpl
    have bx := x.toNat_lt
    clear hr hh hx
    go_enter Try.func36, Try.ntmps36
    go_wp2
    go_ret
    first
    | exact pick_end HS (Int.tmod_nonneg _ (by omega)) (fun _ => Int.tmod_lt_of_pos _ (by omega)) (by omega) 0
    | exact pick_end HS (Int.emod_nonneg _ (by omega)) (fun _ => Int.emod_lt_of_pos _ (by omega)) (by omega) 0
  · obtain ⟨b, off, x, rfl, hbB, hx, hc⟩ := hr.byte (Nat.mod_lt p (show 0 < l by omega))
    obtain ⟨b', off', y, he, hbB', hy, hc'⟩ := hr.byte (Nat.mod_lt (p * 7 + 3) (show 0 < l by omega))
    obtain ⟨rfl, rfl⟩ : b = b' ∧ off = off' := by simpa using he
    have bx := x.toNat_lt
    have by' := y.toNat_lt
    obtain ⟨i1, hi1⟩ : ∃ i1, i1 = p % l := ⟨_, rfl⟩
    obtain ⟨i2, hi2⟩ : ∃ i2, i2 = (p * 7 + 3) % l := ⟨_, rfl⟩
    have li1 : i1 < l := by rw [hi1]; exact Nat.mod_lt _ (by omega)
    have li2 : i2 < l := by rw [hi2]; exact Nat.mod_lt _ (by omega)
    rw [← hi1] at hc
    rw [← hi2] at hc'
    have z1 : (p : Int).tmod (l : Int) = (i1 : Int) := by rw [hi1]; rfl
    have z2 : ((p : Int) * 7 + 3).tmod (l : Int) = (i2 : Int) := by rw [hi2]; rfl
    obtain ⟨q, hq⟩ : ∃ q, q = p / l := ⟨_, rfl⟩
    have lq : q ≤ p := by rw [hq]; exact Nat.div_le_self _ _
    have z3 : (p : Int).tdiv (l : Int) = (q : Int) := by rw [hq]; rfl
    obtain ⟨u, hu⟩ : ∃ u, u = x.toNat := ⟨_, rfl⟩
    obtain ⟨v, hv⟩ : ∃ v, v = y.toNat := ⟨_, rfl⟩
    rw [← hu] at bx hc
    rw [← hv] at by' hc'
    have y0 : IntKind.i64.wrap (u : Int) = (u : Int) := IntWalk.i64_in _ (by omega)
    have y1 : IntKind.i64.wrap (v : Int) = (v : Int) := IntWalk.i64_in _ (by omega)
    have y2 : IntKind.i64.wrap ((u : Int) * 131) = ((u * 131 : Nat) : Int) := IntWalk.i64_in _ (by omega)
    have y3 : IntKind.i64.wrap ((v : Int) * 1117) = ((v * 1117 : Nat) : Int) := IntWalk.i64_in _ (by omega)
    have y4 : IntKind.i64.wrap ((p : Int) * 7) = (p : Int) * 7 := IntWalk.i64_in _ (by omega)
    have y5 : IntKind.i64.wrap ((p : Int) * 7 + 3) = (p : Int) * 7 + 3 := IntWalk.i64_in _ (by omega)
    clear he hx hy hi1 hi2 hq hu hv
    go_enter Try.func36, Try.ntmps36
    go_wp2
    go_quiet (fail)
    go_wp2
    go_ret
    have hX := xor_nonneg (u * 131 + v * 1117 + p * 29 + q * 53) (by omega)
    refine pick_end HS (Int.tmod_nonneg _ ?_) (fun _ => Int.tmod_lt_of_pos _ (by omega)) (by omega) _
    simpa using hX
end Go.Proofs.Ytmmhobokbbcpbaa
