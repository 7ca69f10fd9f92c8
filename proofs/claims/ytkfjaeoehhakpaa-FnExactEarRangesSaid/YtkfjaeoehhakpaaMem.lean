import Derived.Test.YtkfjaeoehhakpaaRows
import Derived.WalkKit
import Derived.ProofKit
import Derived.OpenShut
import Derived.Below
import Derived.Lib.Hide
import Derived.Deep.Draws
import Derived.OneCell
namespace Go.Proofs.Ytkfjaeoehhakpaa
open Go.ChangeShapes Go.WideShapes Go.ChangeAt Go.RowKit
theorem ret_i {k : IntKind} {a b : Int} (h : a = b) : Ending.returned (.int k a) = .returned (.int k b) := by rw [h]
theorem ret_b {a b : Bool} (h : a = b) : Ending.returned (.bool a) = .returned (.bool b) := by rw [h]
def bval (x : UInt8) : Value := .int .u8 (x.toNat : Int)
def bv (xs : List UInt8) : List Value := xs.map bval
theorem bv_len (xs : List UInt8) : (bv xs).length = xs.length := by simp [bv]
theorem bv_at (xs : List UInt8) (k : Nat) : (bv xs)[k]? = (xs[k]?).map bval := by simp [bv]
structure Rd (w : World) (B : Nat) (A : Option Addr) (n : Nat) (xs : List Value) : Prop where
  len : xs.length = n
  cells : 0 < n → ∃ b off, A = some ⟨b, off, none⟩ ∧ b < B ∧ ∀ j u, xs[j]? = some u → w.cell? ⟨b, off + j, none⟩ = some u
section
variable {w w' : World} {B B' n : Nat} {A : Option Addr} {xs : List Value}
theorem Rd.keep (h : Rd w B A n xs) (hk : ∀ p : Addr, p.block < B → w'.cell? p = w.cell? p) : Rd w' B A n xs :=
  ⟨h.len, fun hn => by
    obtain ⟨b, off, e, hb, hc⟩ := h.cells hn
    exact ⟨b, off, e, hb, fun j u hu => (hk _ hb).trans (hc j u hu)⟩⟩
theorem Rd.up (h : Rd w B A n xs) (hB : B ≤ B') : Rd w B' A n xs :=
  ⟨h.len, fun hn => by
    obtain ⟨b, off, e, hb, hc⟩ := h.cells hn
    exact ⟨b, off, e, by omega, hc⟩⟩
theorem Rd.below (h : Rd w B A n xs) (hb : Below B w w') : Rd w' B A n xs := h.keep fun _ hp => hb.cell hp
theorem Rd.at_ {k : Nat} (h : Rd w B A n xs) (hk : k < n) : ∃ b off u, A = some ⟨b, off, none⟩ ∧ b < B ∧ xs[k]? = some u ∧ w.cell? ⟨b, off + k, none⟩ = some u := by
  obtain ⟨b, off, e, hb, hc⟩ := h.cells (by omega)
  have hl : k < xs.length := by have := h.len; omega
  exact ⟨b, off, xs[k], e, hb, List.getElem?_eq_getElem hl, hc k _ (List.getElem?_eq_getElem hl)⟩
theorem Rd.of_own {base c : Nat} {e : TypeId} (h : w.ownsRow base e 1 (.slice A n c) n xs) : Rd w w.heap.size A n xs := by
  refine ⟨by simpa using h.1, fun hn => ?_⟩
  rcases h.2 with ⟨hv, h0⟩ | ⟨g, cap, cur, hv, hg, hh, _⟩
  · omega
  · injection hv with hA _ _
    subst hA
    refine ⟨g, 0, rfl, (Array.getElem?_eq_some_iff.1 hh).1, fun j u hu => ?_⟩
    have := h.cells (g := g) rfl j u hu
    unfold Addr.add at this
    by_cases hj : j = 0 <;> simp_all
end
theorem Rd.byte {w : World} {B n k : Nat} {A : Option Addr} {xs : List UInt8} (h : Rd w B A n (bv xs)) (hk : k < n) :
    ∃ b off x, A = some ⟨b, off, none⟩ ∧ b < B ∧ xs[k]? = some x ∧ w.cell? ⟨b, off + k, none⟩ = some (.int .u8 (x.toNat : Int)) := by
  obtain ⟨b, off, u, e, hb, hu, hc⟩ := h.at_ hk
  rw [bv_at] at hu
  rcases hx : xs[k]? with _ | x
  · rw [hx] at hu; simp at hu
  · rw [hx] at hu
    simp [bval] at hu
    subst hu
    exact ⟨b, off, x, e, hb, rfl, hc⟩
def RetB (B : Nat) (xs : List UInt8) (w : World) (e : Ending) (w' : World) : Prop :=
  ∃ A n c, e = .returned (.slice A n c) ∧ w'.ownsRow B 5 1 (.slice A n c) n (bv xs) ∧ Below B w w'
def RetR (B n : Nat) (xs : List UInt8) (w : World) (e : Ending) (w' : World) : Prop :=
  ∃ A c, e = .returned (.slice A n c) ∧ Rd w' w'.heap.size A n (bv xs) ∧ Below B w w'
theorem own_len {w : World} {B n : Nat} {e : TypeId} {v : Value} {xs : List UInt8} (h : w.ownsRow B e 1 v n (bv xs)) : n = xs.length := by
  have := h.1; rw [bv_len] at this; omega
theorem rd_len {w : World} {B n : Nat} {A : Option Addr} {xs : List UInt8} (h : Rd w B A n (bv xs)) : n = xs.length := by
  have := h.len; rw [bv_len] at this; omega
theorem RetB.rd {B n : Nat} {xs : List UInt8} {w w' : World} {e : Ending} (hn : n = xs.length) (h : RetB B xs w e w') : RetR B n xs w e w' := by
  obtain ⟨A, n', c, he, ho, hb⟩ := h
  obtain rfl : n' = n := by have := own_len ho; omega
  exact ⟨A, c, he, Rd.of_own ho, hb⟩
theorem Try.info5 : (Try.prog.info? 5).map (fun i => (i.zero, i.size, i.bytes)) = some (some (.int .u8 0), 1, 1) := by kernel_rfl
theorem fill_step {xs : List UInt8} {n k : Nat} {x : UInt8} (hn : n = xs.length) (hx : xs[k]? = some x) (z : Value) :
    ((bv xs).take k ++ List.replicate (n - k) z).set k (.int .u8 (x.toNat : Int)) = (bv xs).take (k + 1) ++ List.replicate (n - (k + 1)) z := by
  obtain ⟨hk, hxe⟩ := List.getElem?_eq_some_iff.1 hx
  have hl : ((bv xs).take k).length = k := by rw [List.length_take, bv_len]; omega
  have hm : n - k = (n - (k + 1)) + 1 := by omega
  rw [hm, List.replicate_succ, List.set_append_right _ _ (by omega), hl, Nat.sub_self, List.set_cons_zero, List.take_add_one, bv_at, hx]
  simp [bval]
theorem made_one (z : Value) (n : Nat) : (madeCells #[z] n).toList = List.replicate n z := by
  simp only [madeCells, List.size_toArray, List.length_cons, List.length_nil, Array.toList_map, Array.toList_range]
  apply List.ext_getElem?
  intro i
  rw [List.getElem?_map, List.getElem?_replicate]
  by_cases h : i < n
  · rw [if_pos h, List.getElem?_range h]
    simp [Nat.mod_one]
  · rw [if_neg h, List.getElem?_eq_none (by simpa using h)]
    rfl
theorem below_drawn (B : Nat) (w : World) (d : Nat) : Below B w (w.drewN d) := ⟨rfl, rfl, rfl, Nat.le_refl _, fun _ _ => rfl⟩
theorem take_snoc_eq {xs ys : List UInt8} {k : Nat} {x : UInt8} (h : xs.take k = ys.take k) (hx : xs[k]? = some x) (hy : ys[k]? = some x) : xs.take (k + 1) = ys.take (k + 1) := by
  rw [List.take_add_one, List.take_add_one, h, hx, hy]
theorem ne_at {xs ys : List UInt8} {k : Nat} {x y : UInt8} (hx : xs[k]? = some x) (hy : ys[k]? = some y) (hne : x ≠ y) : (xs == ys) = false := by
  rw [beq_eq_false_iff_ne]
  rintro rfl
  rw [hx] at hy
  exact hne (Option.some.inj hy)
theorem eq_full {xs ys : List UInt8} {k : Nat} (h : xs.take k = ys.take k) (hx : k = xs.length) (hy : k = ys.length) : (xs == ys) = true := by
  rw [beq_iff_eq]
  rw [List.take_of_length_le (by omega), List.take_of_length_le (by omega)] at h
  exact h
theorem ne_len {xs ys : List UInt8} (h : xs.length ≠ ys.length) : (xs == ys) = false := by
  rw [beq_eq_false_iff_ne]
  rintro rfl
  exact h rfl
theorem rd_of_ints {w : World} {x : Addr} {len cap : Nat} {zs : List Int} (hl : len ≤ cap) (hz : zs.length = cap)
    (hcell : ∀ i, i < zs.length → w.cell? (x.add i) = some (.int .u8 (zs.getD i 0))) (hwz : ∀ n ∈ zs, (Lit.int .u8 n).wf = true) :
    ∃ xs, Rd w w.heap.size (some x) len (bv xs) := by
  refine ⟨(zs.take len).map fun z => UInt8.ofNat z.toNat, by simp [bv]; omega, fun hn => ?_⟩
  obtain ⟨b, off, spot⟩ := x
  have hc0 := hcell 0 (by omega)
  have hs : spot = none := by simpa [Addr.add] using World.cell?_spot hc0
  subst hs
  refine ⟨b, off, rfl, by simpa [Addr.add] using World.block_lt_of_cell? w _ hc0, fun j u hu => ?_⟩
  have hj : j < len := by
    have := (List.getElem?_eq_some_iff.1 hu).1
    simp [bv] at this
    omega
  have hc := hcell j (by omega)
  have hjz : j < zs.length := by omega
  have hg : zs.getD j 0 = zs[j] := by simp [List.getD, hjz]
  have hw := hwz zs[j] (List.getElem_mem hjz)
  rw [hg] at hc
  have hb : 0 ≤ zs[j] ∧ zs[j] ≤ 255 := by simpa [Lit.wf, IntKind.min, IntKind.max, IntKind.signed, IntKind.bits] using hw
  have ha : (⟨b, off, none⟩ : Addr).add j = ⟨b, off + j, none⟩ := by unfold Addr.add; split <;> simp_all
  rw [ha] at hc
  rw [hc]
  simp [bv, hj, hjz, bval] at hu
  rw [← hu]
  congr 2
  omega
theorem rd_nil (w : World) : Rd w w.heap.size none 0 (bv []) := ⟨rfl, fun h => absurd h (by omega)⟩
end Go.Proofs.Ytkfjaeoehhakpaa
namespace Go.Proofs.Ytkfjaeoehhakpaa
open Go.ChangeShapes Go.WideShapes Go.ChangeAt Go.RowKit
theorem own_shape {w : World} {B n : Nat} {e : TypeId} {v : Value} {xs : List Value} (h : w.ownsRow B e 1 v n xs) : ∃ A c, v = .slice A n c := by
  rcases h.2 with ⟨rfl, rfl⟩ | ⟨g, cap, cur, rfl, _⟩
  · exact ⟨_, _, rfl⟩
  · exact ⟨_, _, rfl⟩
theorem RetB.of_own {w w' : World} {B n : Nat} {v : Value} {xs : List UInt8} (h : w'.ownsRow B 5 1 v n (bv xs)) (hb : Below B w w') : RetB B xs w (.returned v) w' := by
  obtain ⟨A, c, rfl⟩ := own_shape h
  exact ⟨A, n, c, rfl, h, hb⟩
theorem own_empty (w : World) (B : Nat) (hB : B ≤ w.heap.size) : (w.alloc (.cells #[] 5)).ownsRow B 5 1 (.slice (some ⟨w.heap.size, 0, none⟩) 0 0) 0 (bv []) :=
  World.ownsRow_made _ _ _ hB (by simp [maxLen]) rfl
end Go.Proofs.Ytkfjaeoehhakpaa
namespace Go.Proofs.Ytkfjaeoehhakpaa
open Go.ChangeShapes Go.WideShapes Go.ChangeAt Go.RowKit
end Go.Proofs.Ytkfjaeoehhakpaa
