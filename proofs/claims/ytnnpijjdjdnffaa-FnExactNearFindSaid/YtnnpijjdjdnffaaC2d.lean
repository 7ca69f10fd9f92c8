import Derived.Test.YtnnpijjdjdnffaaFr2
import Derived.Test.YtnnpijjdjdnffaaSame
import Derived.Deep.RegionLaw
import Derived.Deep.RegionWith
import Derived.Deep.RegionHeld3
import Derived.Deep.DrawnRows
namespace Go.Proofs.Ytnnpijjdjdnffaa
open Go.ChangeShapes Go.WideShapes Go.ChangeAt Go.RowKit

/-- a frame, or none, in new memory -/
def RetF (B : Nat) (t f k : Int) (d : List UInt8) (ok : Bool) (w : World) (e : Ending) (w' : World) : Prop :=
  ∃ A n c, e = .returned (.tuple #[.agg #[.int .i64 t, .int .i64 f, .int .i64 k, .slice A n c], .bool ok]) ∧ w'.ownsRow B 5 1 (.slice A n c) n (bv d) ∧ Below B w w'
def RetFr (xs : List UInt8) (B : Nat) (w : World) (e : Ending) (w' : World) : Prop :=
  (frFine xs = true ∧ RetF B (frT0 xs) (frF0 xs) (frK0 xs) (frD0 xs) true w e w') ∨ (frFine xs = false ∧ RetF B 0 0 0 [] false w e w')
theorem RetFr.no {xs : List UInt8} {B : Nat} {w w' : World} (h : frFine xs = false) (hb : Below B w w') :
    RetFr xs B w (.returned (.tuple #[.agg #[.int .i64 0, .int .i64 0, .int .i64 0, .slice none 0 0], .bool false])) w' :=
  .inr ⟨h, none, 0, 0, rfl, World.ownsRow_nil _ _ _ _, hb⟩

set_option maxHeartbeats 1000000 in
theorem frameFrom_impl (A : Option Addr) (n c B : Nat) (xs : List UInt8) (w : World) (h : Rd w B A n (bv xs)) (hB : B ≤ w.heap.size) (hn : n ≤ 1048576) (hc : n ≤ c) :
    Calls Try.prog 21 #[.slice A n c] w (RetFr xs w.heap.size w) := by
  have hl := rd_len h
  subst hl
  by_cases hs : xs.length < 6
  · have HF := Lib.hid (fr_short hs)
    have i1 : (xs.length : Int) - 4 - 2 < 0 := by omega
    clear h
    go_enter Try.func21, Try.ntmps21
    go_wp2
    refine bodyPost_ret (v := .tuple #[.agg #[.int .i64 0, .int .i64 0, .int .i64 0, .slice none 0 0], .bool false]) (by simp [results, Try.results21, go_sem]) rfl (RetFr.no HF.out ?_)
    exact (Below.refl _ _).alloc (Nat.le_refl _) _
  by_cases hs2 : 70 < xs.length
  · have HF := Lib.hid (fr_long hs2)
    have i1 : ¬ (xs.length : Int) - 4 - 2 < 0 := by omega
    have i2 : 64 < (xs.length : Int) - 4 - 2 := by omega
    clear h
    go_enter Try.func21, Try.ntmps21
    go_wp2
    refine bodyPost_ret (v := .tuple #[.agg #[.int .i64 0, .int .i64 0, .int .i64 0, .slice none 0 0], .bool false]) (by simp [results, Try.results21, go_sem]) rfl (RetFr.no HF.out ?_)
    exact (Below.refl _ _).alloc (Nat.le_refl _) _
  obtain ⟨m, hm⟩ : ∃ m, m = xs.length - 6 := ⟨_, rfl⟩
  have hm1 : (xs.length : Int) - 4 - 2 = (m : Int) := by omega
  have hm2 : m ≤ 64 := by omega
  obtain ⟨b, off, hA, hbB, hcell⟩ := h.cells (by omega)
  subst hA
  obtain ⟨_, _, x0, he, _, hx0, hc0⟩ := h.byte (show 0 < xs.length by omega)
  obtain ⟨rfl, rfl⟩ : b = _ ∧ off = _ := by simpa using he
  obtain ⟨_, _, x1, he1, _, hx1, hc1⟩ := h.byte (show 1 < xs.length by omega)
  obtain ⟨rfl, rfl⟩ : b = _ ∧ off = _ := by simpa using he1
  obtain ⟨_, _, x2, he2, _, hx2, hc2⟩ := h.byte (show 2 < xs.length by omega)
  obtain ⟨rfl, rfl⟩ : b = _ ∧ off = _ := by simpa using he2
  have e0 : frT0 xs = (x0.toNat : Int) := by simp [frT0, List.getD, hx0]
  have e1 : frF0 xs = (x1.toNat : Int) := by simp [frF0, List.getD, hx1]
  have e2 : frK0 xs = (x2.toNat : Int) := by simp [frK0, List.getD, hx2]
  rw [← e0] at hc0
  rw [← e1] at hc1
  rw [← e2] at hc2
  have u1 : 0 ≤ frT0 xs ∧ frT0 xs ≤ 255 := by have := x0.toNat_lt; omega
  have u2 : 0 ≤ frF0 xs ∧ frF0 xs ≤ 255 := by have := x1.toNat_lt; omega
  have u3 : 0 ≤ frK0 xs ∧ frK0 xs ≤ 255 := by have := x2.toNat_lt; omega
  have rd4 := rd_cut h (lo := 4) (k := m) (by omega)
  have hd : (xs.drop 4).take m = frD0 xs := by rw [hm]; rfl
  have hdl : (frD0 xs).length = m := by rw [frD0_len (by omega), hm]
  rw [hd] at rd4
  have HFI : Hid (frFine xs = (frBytes (frT0 xs) (frF0 xs) (frK0 xs) (frD0 xs) == xs)) := Lib.hid (by simp [frFine]; omega)
  obtain ⟨t, ht⟩ : ∃ t, t = frT0 xs := ⟨_, rfl⟩
  obtain ⟨f, hf⟩ : ∃ f, f = frF0 xs := ⟨_, rfl⟩
  obtain ⟨k, hk⟩ : ∃ k, k = frK0 xs := ⟨_, rfl⟩
  obtain ⟨ds, hds⟩ : ∃ ds, ds = frD0 xs := ⟨_, rfl⟩
  rw [← ht] at hc0 u1 HFI
  rw [← hf] at hc1 u2 HFI
  rw [← hk] at hc2 u3 HFI
  rw [← hds] at rd4 HFI hdl
  have HT := Lib.hid ht
  have HFF := Lib.hid hf
  have HK := Lib.hid hk
  have HDS := Lib.hid hds
  have HM := Lib.hid hm
  have HDL := Lib.hid hdl
  clear ht hf hk hds hm e0 e1 e2 hd hdl
  obtain ⟨u1, u1'⟩ := u1
  obtain ⟨u2, u2'⟩ := u2
  obtain ⟨u3, u3'⟩ := u3
  have l0 : 0 < xs.length := by omega
  have l1 : (1 : Int) < (xs.length : Int) := by omega
  have l2 : (2 : Int) < (xs.length : Int) := by omega
  have hbw : b < w.heap.size := by omega
  have p0 : ((w.alloc (.cells #[.int .i64 0, .int .i64 0, .int .i64 0, .slice none 0 0] 24))).cell? ⟨b, off, none⟩ = some (.int .u8 t) := by rw [World.cell?_alloc_past _ _ _ hbw]; exact hc0
  clear he he1 he2 hx0 hx1 hx2 hcell
  go_enter Try.func21, Try.ntmps21
  go_wp2
  go_region
  go_wp2
  refine name_world fun W hW => ?_
  have hb5 : Below w.heap.size w W := by rw [hW]; exact (((Below.refl _ _).alloc (Nat.le_refl _) _).alloc (by simp) _).drew
  have hz5 : W.heap.size = w.heap.size + 2 := by rw [hW]; simp
  have hh2 : W.heap[w.heap.size]? = some (.cells #[.int .i64 0, .int .i64 0, .int .i64 0, .slice none 0 0] 24 (0, 0)) := by rw [hW]; exact (Below.heap_alloc _ _ _ (by simp)).trans (heap_alloc_new w _)
  have hh5 : W.heap[w.heap.size + 1]? = some (.cells #[.int .i64 t, .int .i64 f, .int .i64 k, .slice none 0 0] 24 (0, 0)) := by
    have := heap_alloc_new (w.alloc (.cells #[.int .i64 0, .int .i64 0, .int .i64 0, .slice none 0 0] 24)) (.cells #[.int .i64 t, .int .i64 f, .int .i64 k, .slice none 0 0] 24)
    rw [show (w.alloc (.cells #[.int .i64 0, .int .i64 0, .int .i64 0, .slice none 0 0] 24)).heap.size = w.heap.size + 1 by simp] at this
    rw [hW]
    exact this
  clear hW p0 hc0 hc1 hc2
  have rW := (rd4.up hB).below (hb5.mono (by omega))
  have kn := cell_of_row W _ 3 _ _ _ hh5
  have kf := frozen_of_row W _ 3 _ _ hh5
  have oW : W.drew.ownsRow W.heap.size 5 1 (.slice none 0 0) 0 (bv []) := World.ownsRow_nil _ _ _ _
  have bW : Below W.heap.size W W.drew := (Below.refl _ _).drew
  have rW' : Rd W.drew w.heap.size (some ⟨b, off + 4, none⟩) m (bv ds) := rW.below (Below.refl _ _).drew
  simp at kn
  have HH2 := Lib.hid hh2
  have HH5 := Lib.hid hh5
  have HZ5 := Lib.hid hz5
  have i3 : (4 : Int) ≤ 4 + (m : Int) := by omega
  have i4 : 4 + (m : Int) ≤ (c : Int) := by omega
  have i5 : ¬ c = 4 := by omega
  have iw : IntKind.i64.wrap (4 + (m : Int)) = 4 + (m : Int) := IntWalk.i64_in _ (by omega)
  have it : (4 + (m : Int)).toNat = m + 4 := by omega
  have i0 : (0 : Int) ≤ 4 + (m : Int) := by omega
  have ix : max (4 + (m : Int)) 0 = 4 + (m : Int) := by omega
  clear hh2 hh5 hz5 rd4
  go_region_law (refine step_app (by rfl) _ _ (by rfl) oW bW (by rfl) (by rfl) rW' (by omega) (Nat.le_refl _) (by simp) ?_; intro A2 c2 w2 o2 b2; have hh5' := (b2.block (w.heap.size + 1) (by have := HZ5.out; omega)).trans HH5.out; obtain ⟨-, -, -, kc⟩ := cells4 hh5'; have kff := frozen_of_row w2 _ 3 _ _ hh5'; have HH5' := Lib.hid hh5'; clear hh5')
  rw [Nat.zero_add, List.nil_append] at o2
  clear iw it i0 ix i3 i4 i5 oW bW rW rW' kn kf
  go_wp2
  refine name_world fun W3 hW3 => ?_
  have hz2 := b2.size
  have hsz := HZ5.out
  have hh3 : W3.heap[w.heap.size + 1]? = some (.cells #[.int .i64 t, .int .i64 f, .int .i64 k, .slice A2 m c2] 24 (0, 0)) := by
    rw [hW3, heap_setCell_same _ _ _ _ _ _ HH5'.out]; rfl
  have hh4 : W3.heap[w.heap.size]? = some (.cells #[.int .i64 0, .int .i64 0, .int .i64 0, .slice none 0 0] 24 (0, 0)) := by
    rw [hW3, heap_setCell_other _ _ _ _ (by simp)]; exact (b2.block _ (by omega)).trans HH2.out
  have b3 : Below w.heap.size w W3 := by rw [hW3]; exact (hb5.trans (b2.mono (by omega))).setCell (by simp) _
  have o3 : W3.ownsRow W.heap.size 5 1 (.slice A2 m c2) m (bv ds) := by
    rw [hW3]; exact ownsRow_setCell_below o2 (by simp; omega) _
  have hz3 : W3.heap.size = w2.heap.size := by rw [hW3]; simp
  clear hW3 kc kff
  have h3 := h.below (b3.mono hB)
  have r3 := Rd.of_own o3
  have ea := conv_rd (w := W3.drew) (h3.below (Below.refl _ _).drew) c
  have HB3 := Lib.hid hh3
  have HB4 := Lib.hid hh4
  obtain ⟨k0, k1, k2, k3⟩ := cells4 hh3
  have HZ3 := Lib.hid hz3
  clear hh3 hh4 hz3 hsz
  obtain ⟨ys, hys⟩ : ∃ ys, ys = frBytes t f k ds := ⟨_, rfl⟩
  have HY := Lib.hid hys
  rw [← hys] at HFI
  clear hys
  go_region_with (go_at_call 16; refine (frameBytes_impl t f k A2 m c2 W3.heap.size ds _ (r3.below (Below.refl _ _).drew) (Nat.le_refl _) (by omega)).mono ?_; rw [← HY.out]; rintro e w6 ⟨A6, n6, c6, rfl, o6, b6⟩; have b6' := undrew b6; have ea' := conv_rd (w := w6) (h3.below (b6'.mono (Nat.le_trans hB b3.size))) c; have eb := conv_rd (w := w6) (Rd.of_own o6) c6)
  all_goals
    have hz3 := HZ3.out
    have hsz := HZ5.out
    have hh6 := (b6'.block (w.heap.size + 1) (show _ < W3.heap.size by omega)).trans HB3.out
    have hh7 := (b6'.block w.heap.size (show _ < W3.heap.size by omega)).trans HB4.out
    clear k0 k1 k2 k3 ea ea' eb hz3 hsz
    obtain ⟨k0, k1, k2, k3⟩ := cells4 hh6
    obtain ⟨j0, j1, j2, j3⟩ := cells4 hh7
    have f0 := frozen_of_row w6 _ 0 _ _ hh7
    have f1 := frozen_of_row w6 _ 1 _ _ hh7
    have f2 := frozen_of_row w6 _ 2 _ _ hh7
    have f3 := frozen_of_row w6 _ 3 _ _ hh7
    clear hh6 hh7
    rcases hq : (ys == xs) with _ | _
    · have HN : Hid (frFine xs = false) := Lib.hid (HFI.out.trans hq)
      go_wp2
      refine bodyPost_ret (v := .tuple #[.agg #[.int .i64 0, .int .i64 0, .int .i64 0, .slice none 0 0], .bool false]) (by simp [results, Try.results21, go_sem, j0, j1, j2, j3]) rfl (RetFr.no HN.out ?_)
      exact ((((b3.trans (b6'.mono b3.size)).setCell (Nat.le_refl _) _).setCell (Nat.le_refl _) _).setCell (Nat.le_refl _) _).setCell (Nat.le_refl _) _
    · have HN : Hid (frFine xs = true) := Lib.hid (HFI.out.trans hq)
      have o7 := own_below o3 b6' (Nat.le_refl _)
      go_wp2
      refine bodyPost_ret (v := .tuple #[.agg #[.int .i64 t, .int .i64 f, .int .i64 k, .slice A2 m c2], .bool true]) (by simp [results, Try.results21, go_sem, j0, j1, j2, j3]) rfl ?_
      rw [HT.out, HFF.out, HK.out]
      rw [HDS.out] at o7
      have hsz := HZ5.out
      refine .inl ⟨HN.out, A2, m, c2, rfl, own_base (ownsRow_setCell_below (ownsRow_setCell_below (ownsRow_setCell_below (ownsRow_setCell_below o7 (by simp; omega) _) (by simp; omega) _) (by simp; omega) _) (by simp; omega) _) (by omega), ?_⟩
      exact ((((b3.trans (b6'.mono b3.size)).setCell (Nat.le_refl _) _).setCell (Nat.le_refl _) _).setCell (Nat.le_refl _) _).setCell (Nat.le_refl _) _
end Go.Proofs.Ytnnpijjdjdnffaa
