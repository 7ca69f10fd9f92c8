import Derived.Test.YtnnpijjdjdnffaaC2e
import Derived.Test.YtnnpijjdjdnffaaPast
namespace Go.Proofs.Ytnnpijjdjdnffaa
open Go.ChangeShapes Go.WideShapes Go.ChangeAt Go.RowKit

set_option maxHeartbeats 4000000 in
theorem frameFrom_spec (A : Option Addr) (n c B : Nat) (xs : List UInt8) (w : World) (h : Rd w B A n (bv xs)) (hB : B ≤ w.heap.size) (hn : n ≤ 1048576) (hc : n ≤ c) :
    Calls Try.prog 24 #[.slice A n c] w (RetFr xs w.heap.size w) := by
  have hl := rd_len h
  subst hl
  by_cases hs : xs.length < 6
  · have HF := Lib.hid (fr_short hs)
    clear h
    go_enter Try.func24, Try.ntmps24
    go_wp2
    refine bodyPost_ret (v := .tuple #[.agg #[.int .i64 0, .int .i64 0, .int .i64 0, .slice none 0 0], .bool false]) (by simp [results, Try.results24, go_sem]) rfl (RetFr.no HF.out ?_)
    exact (Below.refl _ _).alloc (Nat.le_refl _) _
  have hs' : ¬ (xs.length : Int) < 6 := by omega
  have HFS := Lib.hid (frFine_spec xs (by omega))
  obtain ⟨m, hm⟩ : ∃ m, m = xs.length - 6 := ⟨_, rfl⟩
  obtain ⟨m4, hm4⟩ : ∃ m4 : Int, m4 = (xs.length : Int) - 2 := ⟨_, rfl⟩
  have hm5 : m4 = ((m + 4 : Nat) : Int) := by omega
  have hm1 : (xs.length : Int) - 2 = m4 := hm4.symm
  have iw : IntKind.i64.wrap m4 = m4 := IntWalk.i64_in _ (by omega)
  have it : m4.toNat = m + 4 := by omega
  obtain ⟨b, off, hA, hbB, hcell⟩ := h.cells (by omega)
  subst hA
  obtain ⟨_, _, x0, he, _, hx0, hc0⟩ := h.byte (show 0 < xs.length by omega)
  obtain ⟨rfl, rfl⟩ : b = _ ∧ off = _ := by simpa using he
  obtain ⟨_, _, x1, he1, _, hx1, hc1⟩ := h.byte (show 1 < xs.length by omega)
  obtain ⟨rfl, rfl⟩ : b = _ ∧ off = _ := by simpa using he1
  obtain ⟨_, _, x2, he2, _, hx2, hc2⟩ := h.byte (show 2 < xs.length by omega)
  obtain ⟨rfl, rfl⟩ : b = _ ∧ off = _ := by simpa using he2
  obtain ⟨_, _, x3, he3, _, hx3, hc3⟩ := h.byte (show 3 < xs.length by omega)
  obtain ⟨rfl, rfl⟩ : b = _ ∧ off = _ := by simpa using he3
  have e0 : frT0 xs = (x0.toNat : Int) := by simp [frT0, List.getD, hx0]
  have e1 : frF0 xs = (x1.toNat : Int) := by simp [frF0, List.getD, hx1]
  have e2 : frK0 xs = (x2.toNat : Int) := by simp [frK0, List.getD, hx2]
  have e3 : ((xs.getD 3 0).toNat : Int) = (x3.toNat : Int) := by simp [List.getD, hx3]
  rw [← e0] at hc0
  rw [← e1] at hc1
  rw [← e2] at hc2
  rw [← e3] at hc3
  have u1 : 0 ≤ frT0 xs ∧ frT0 xs ≤ 255 := by have := x0.toNat_lt; omega
  have u2 : 0 ≤ frF0 xs ∧ frF0 xs ≤ 255 := by have := x1.toNat_lt; omega
  have u3 : 0 ≤ frK0 xs ∧ frK0 xs ≤ 255 := by have := x2.toNat_lt; omega
  have u4 : 0 ≤ ((xs.getD 3 0).toNat : Int) ∧ ((xs.getD 3 0).toNat : Int) ≤ 255 := by have := x3.toNat_lt; omega
  have rd4 := rd_cut h (lo := 4) (k := m) (by omega)
  have hd : (xs.drop 4).take m = frD0 xs := by rw [hm]; rfl
  have hdl : (frD0 xs).length = m := by rw [frD0_len (by omega), hm]
  rw [hd] at rd4
  obtain ⟨t, ht⟩ : ∃ t, t = frT0 xs := ⟨_, rfl⟩
  obtain ⟨f, hf⟩ : ∃ f, f = frF0 xs := ⟨_, rfl⟩
  obtain ⟨k, hk⟩ : ∃ k, k = frK0 xs := ⟨_, rfl⟩
  obtain ⟨q, hq⟩ : ∃ q : Int, q = ((xs.getD 3 0).toNat : Int) := ⟨_, rfl⟩
  obtain ⟨ds, hds⟩ : ∃ ds, ds = frD0 xs := ⟨_, rfl⟩
  rw [← ht] at hc0 u1 HFS
  rw [← hf] at hc1 u2 HFS
  rw [← hk] at hc2 u3 HFS
  rw [← hq] at hc3 u4 HFS
  rw [← hds] at rd4 hdl
  rw [← hm] at HFS
  have HT := Lib.hid ht
  have HFF := Lib.hid hf
  have HK := Lib.hid hk
  have HDS := Lib.hid hds
  have HM := Lib.hid hm
  have HDL := Lib.hid hdl
  clear ht hf hk hq hds hm e0 e1 e2 e3 hd hdl
  obtain ⟨u1, u1'⟩ := u1
  obtain ⟨u2, u2'⟩ := u2
  obtain ⟨u3, u3'⟩ := u3
  obtain ⟨u4, u4'⟩ := u4
  have l0 : 0 < xs.length := by omega
  have l1 : (1 : Int) < (xs.length : Int) := by omega
  have l2 : (2 : Int) < (xs.length : Int) := by omega
  have l3 : (3 : Int) < (xs.length : Int) := by omega
  have hbw : b < w.heap.size := by omega
  have i3 : (4 : Int) ≤ m4 := by omega
  have i4 : m4 ≤ (c : Int) := by omega
  have i5 : ¬ c = 4 := by omega
  have i0 : (0 : Int) ≤ m4 := by omega
  have wt4 : IntKind.i64.wrap q = q := IntWalk.i64_in _ (by omega)
  have hnA : ((xs.length - 2 : Nat) : Int) = m4 := by omega
  have hnB : xs.length - 2 = m + 4 := by omega
  rw [hnA, hnB] at HFS
  obtain ⟨na, hna⟩ : ∃ na, na = numAt xs m4 2 := ⟨_, rfl⟩
  obtain ⟨sm, hsm⟩ : ∃ sm, sm = sumOf (xs.take (m + 4)) := ⟨_, rfl⟩
  rw [← hna, ← hsm] at HFS
  have HNA := Lib.hid hna
  have HSM := Lib.hid hsm
  have rdt := rd_cut h (lo := 0) (k := m + 4) (by omega)
  rw [List.drop_zero, Nat.add_zero] at rdt
  clear hna hsm hnA hnB
  clear he he1 he2 he3 hx0 hx1 hx2 hx3 hcell
  go_enter Try.func24, Try.ntmps24
  go_wp2
  refine name_world fun W hW => ?_
  have hb5 : Below w.heap.size w W := by rw [hW]; exact ((Below.refl _ _).alloc (Nat.le_refl _) _)
  have hz5 : W.heap.size = w.heap.size + 1 := by rw [hW]; simp
  have hh2 : W.heap[w.heap.size]? = some (.cells #[.int .i64 0, .int .i64 0, .int .i64 0, .slice none 0 0] 24 (0, 0)) := by rw [hW]; exact heap_alloc_new w _
  have hk0 : W.cell? ⟨b, off, none⟩ = some (.int .u8 t) := (hb5.cell (p := ⟨b, off, none⟩) hbw).trans hc0
  have hk1 : W.cell? ⟨b, off + 1, none⟩ = some (.int .u8 f) := (hb5.cell (p := ⟨b, off + 1, none⟩) hbw).trans hc1
  have hk2 : W.cell? ⟨b, off + 2, none⟩ = some (.int .u8 k) := (hb5.cell (p := ⟨b, off + 2, none⟩) hbw).trans hc2
  have hk3 : W.cell? ⟨b, off + 3, none⟩ = some (.int .u8 q) := (hb5.cell (p := ⟨b, off + 3, none⟩) hbw).trans hc3
  have rW' : Rd W.drew w.heap.size (some ⟨b, off + 4, none⟩) m (bv ds) := ((rd4.up hB).below (hb5.mono (by omega))).below (Below.refl _ _).drew
  have hbW : b < W.heap.size := by omega
  have HH2 := Lib.hid hh2
  have HZ5 := Lib.hid hz5
  clear hm4 hm5 hh2 hz5 rd4 hc0 hc1 hc2 hW
  have sE : (W.alloc (.cells #[] 5)).heap.size = W.heap.size + 1 := by simp
  have sF : (W.alloc (.cells #[.int .i64 0, .int .i64 0, .int .i64 0, .slice none 0 0] 24)).heap.size = W.heap.size + 1 := by simp
  have oA : ((W.alloc (.cells #[] 5)).drew).ownsRow W.heap.size 5 1 (.slice (some ⟨W.heap.size, 0, none⟩) 0 0) 0 (bv []) := own_lit W W.heap.size 0 [] #[] rfl rfl (by omega) (Nat.le_refl _) rfl
  have oB : (((W.alloc (.cells #[] 5)).alloc (.cells #[.int .i64 0, .int .i64 0, .int .i64 0, .slice none 0 0] 24)).drew).ownsRow W.heap.size 5 1 (.slice (some ⟨W.heap.size, 0, none⟩) 0 0) 0 (bv []) := (own_lit W W.heap.size 0 [] #[] rfl rfl (by omega) (Nat.le_refl _) rfl).alloc _
  have oC : (((W.alloc (.cells #[.int .i64 0, .int .i64 0, .int .i64 0, .slice none 0 0] 24)).alloc (.cells #[] 5)).drew).ownsRow W.heap.size 5 1 (.slice (some ⟨W.heap.size + 1, 0, none⟩) 0 0) 0 (bv []) := own_lit (W.alloc (.cells #[.int .i64 0, .int .i64 0, .int .i64 0, .slice none 0 0] 24)) W.heap.size 0 [] #[] rfl rfl (by omega) (by rw [sF]; omega) sF.symm
  have bA : Below W.heap.size W ((W.alloc (.cells #[] 5)).drew) := ((Below.refl _ _).alloc (Nat.le_refl _) _).drew
  have bB : Below W.heap.size W (((W.alloc (.cells #[] 5)).alloc (.cells #[.int .i64 0, .int .i64 0, .int .i64 0, .slice none 0 0] 24)).drew) := (((Below.refl _ _).alloc (Nat.le_refl _) _).alloc (by rw [sE]; omega) _).drew
  have bC : Below W.heap.size W (((W.alloc (.cells #[.int .i64 0, .int .i64 0, .int .i64 0, .slice none 0 0] 24)).alloc (.cells #[] 5)).drew) := (((Below.refl _ _).alloc (Nat.le_refl _) _).alloc (by rw [sF]; omega) _).drew
  have zA : W.heap.size + 1 ≤ ((W.alloc (.cells #[] 5)).drew).heap.size := Nat.le_of_eq sE.symm
  have zB : W.heap.size + 2 ≤ (((W.alloc (.cells #[] 5)).alloc (.cells #[.int .i64 0, .int .i64 0, .int .i64 0, .slice none 0 0] 24)).drew).heap.size := by simp
  have zC : W.heap.size + 2 ≤ (((W.alloc (.cells #[.int .i64 0, .int .i64 0, .int .i64 0, .slice none 0 0] 24)).alloc (.cells #[] 5)).drew).heap.size := by simp
  have hgB : (((W.alloc (.cells #[] 5)).alloc (.cells #[.int .i64 0, .int .i64 0, .int .i64 0, .slice none 0 0] 24)).drew).heap[W.heap.size + 1]? = some (.cells #[.int .i64 0, .int .i64 0, .int .i64 0, .slice none 0 0] 24 (0, 0)) := by rw [← sE]; exact heap_alloc_new _ _
  have hgC : (((W.alloc (.cells #[.int .i64 0, .int .i64 0, .int .i64 0, .slice none 0 0] 24)).alloc (.cells #[] 5)).drew).heap[W.heap.size]? = some (.cells #[.int .i64 0, .int .i64 0, .int .i64 0, .slice none 0 0] 24 (0, 0)) := (Below.heap_alloc _ _ _ (by rw [sF]; omega)).trans (heap_alloc_new _ _)
  have rW0 : Rd W w.heap.size (some ⟨b, off + 4, none⟩) m (bv ds) := rW'.below (w := W.drew) ⟨rfl, rfl, rfl, Nat.le_refl _, fun _ _ => rfl⟩
  have hwW : w.heap.size ≤ W.heap.size := by have := HZ5.out; omega
  have wt1 : IntKind.i64.wrap t = t := IntWalk.i64_in _ (by omega)
  have wt2 : IntKind.i64.wrap f = f := IntWalk.i64_in _ (by omega)
  have wt3 : IntKind.i64.wrap k = k := IntWalk.i64_in _ (by omega)
  have ne1 : ¬ W.heap.size = b := by omega
  have ne2 : ¬ W.heap.size + 1 = b := by omega
  have rA := rW0.below (bA.mono hwW)
  have rB := rW0.below (bB.mono hwW)
  have rC := rW0.below (bC.mono hwW)
  have HgB := Lib.hid hgB
  have HgC := Lib.hid hgC
  have ZA := Lib.hid zA
  have ZB := Lib.hid zB
  have ZC := Lib.hid zC
  clear hgB hgC sE sF zA zB zC
  go_region_held3 (fun w' => w'.cell? ⟨b, off, none⟩ = some (.int .u8 t) ∧ w'.cell? ⟨b, off + 1, none⟩ = some (.int .u8 f) ∧ w'.cell? ⟨b, off + 2, none⟩ = some (.int .u8 k))
    (first | go_keep)
    (first
      | (refine step_app_g (by rfl) _ _ (by rfl) oA (by rfl) (by rfl) rA (by omega) (by have := ZA.out; omega) ?_; intro A2 cc2 w2 o2 g2; have b2 := bA.grown g2 (by have := ZA.out; omega) (by intro i hi; simp [Value.ownBlock] at hi; omega); have c0 := (b2.cell (p := ⟨b, off, none⟩) hbW).trans hk0; have c1 := (b2.cell (p := ⟨b, off + 1, none⟩) hbW).trans hk1; have c2 := (b2.cell (p := ⟨b, off + 2, none⟩) hbW).trans hk2; have hbw2 := Nat.lt_of_lt_of_le hbW b2.size; have way1 : Hid True := trivial)
      | (refine step_app_g (by rfl) _ _ (by rfl) oB (by rfl) (by rfl) rB (by omega) (by have := ZB.out; omega) ?_; intro A2 cc2 w2 o2 g2; have b2 := bB.grown g2 (by have := ZB.out; omega) (by intro i hi; simp [Value.ownBlock] at hi; omega); have hg := (g2.block (W.heap.size + 1) (by have := ZB.out; omega) (by simp [Value.ownBlock])).trans HgB.out; obtain ⟨j0, j1, j2, j3⟩ := cells4 hg; have f0 := frozen_of_row w2 _ 0 _ _ hg; have f1 := frozen_of_row w2 _ 1 _ _ hg; have f2 := frozen_of_row w2 _ 2 _ _ hg; have f3 := frozen_of_row w2 _ 3 _ _ hg; have HG := Lib.hid hg; clear hg; have c0 := (b2.cell (p := ⟨b, off, none⟩) hbW).trans hk0; have c1 := (b2.cell (p := ⟨b, off + 1, none⟩) hbW).trans hk1; have c2 := (b2.cell (p := ⟨b, off + 2, none⟩) hbW).trans hk2; have hbw2 := Nat.lt_of_lt_of_le hbW b2.size; have way2 : Hid True := trivial)
      | (refine step_app_g (by rfl) _ _ (by rfl) oC (by rfl) (by rfl) rC (by omega) (by have := ZC.out; omega) ?_; intro A2 cc2 w2 o2 g2; have b2 := bC.grown g2 (by have := ZC.out; omega) (by intro i hi; simp [Value.ownBlock] at hi; omega); have hg := (g2.block W.heap.size (by have := ZC.out; omega) (by simp [Value.ownBlock])).trans HgC.out; obtain ⟨j0, j1, j2, j3⟩ := cells4 hg; have f0 := frozen_of_row w2 _ 0 _ _ hg; have f1 := frozen_of_row w2 _ 1 _ _ hg; have f2 := frozen_of_row w2 _ 2 _ _ hg; have f3 := frozen_of_row w2 _ 3 _ _ hg; have HG := Lib.hid hg; clear hg; have c0 := (b2.cell (p := ⟨b, off, none⟩) hbW).trans hk0; have c1 := (b2.cell (p := ⟨b, off + 1, none⟩) hbW).trans hk1; have c2 := (b2.cell (p := ⟨b, off + 2, none⟩) hbW).trans hk2; have hbw2 := Nat.lt_of_lt_of_le hbW b2.size; have way3 : Hid True := trivial))
  all_goals
    go_wp2_with fail
    refine name_world fun W3 hW3 => ?_
    rw [Nat.zero_add, List.nil_append] at o2
    have hz := HZ5.out
    have hz2 := b2.size
    have hb2 : Below w.heap.size w w2 := hb5.trans (b2.mono hwW)
    have hh2' := (b2.block w.heap.size (by omega)).trans HH2.out
    first
    | (have _w := way1
       have hg3 : W3.heap[w2.heap.size]? = some (.cells #[.int .i64 t, .int .i64 f, .int .i64 k, .slice A2 m cc2] 24 (0, 0)) := by rw [hW3]; exact heap_alloc_new _ _
       have g3 : w2.grownBy W3 none := by rw [hW3]; exact World.grownBy_alloc _ _ _
       have o3 : W3.ownsRow W.heap.size 5 1 (.slice A2 m cc2) m (bv ds) := by rw [hW3]; exact o2.alloc _
       have b3 := hb2.grown g3 hb2.size (by intro i hi; simp at hi)
       have hh3 := (g3.block w.heap.size (by omega) (by simp)).trans hh2'
       have hgn : w2.heap.size ≠ w.heap.size := by omega
       clear hW3 g3
       generalize w2.heap.size = g at hg3 hgn ⊢)
    | (obtain ⟨hg3, g3⟩ := store4 HG.out (.int .i64 t) (.int .i64 f) (.int .i64 k) (.slice A2 m cc2)
       rw [← hW3] at g3 hg3
       have o3 := o2.kept g3 (.inr (own_row_ne o2 HG.out (by decide)))
       have b3 := hb2.grown g3 hb2.size (by intro i hi; simp at hi; omega)
       first
       | (have _w := way2
          have hgn : W.heap.size + 1 ≠ w.heap.size := by omega
          have hh3 := (g3.block w.heap.size (by omega) (by intro e; exact hgn (Option.some.inj e).symm)).trans hh2'
          clear hW3 g3
          generalize W.heap.size + 1 = g at hg3 hgn ⊢)
       | (have _w := way3
          have hgn : W.heap.size ≠ w.heap.size := by omega
          have hh3 := (g3.block w.heap.size (by omega) (by intro e; exact hgn (Option.some.inj e).symm)).trans hh2'
          clear hW3 g3
          generalize W.heap.size = g at hg3 hgn ⊢))
    clear hz hz2 oA oB oC bA bB bC rA rB rC HgB HgC hh2' hb2
    have h3 := h.below (b3.mono hB)
    have rt3 := rdt.below (b3.mono hB)
    have hk3' : W3.cell? ⟨b, off + 3, none⟩ = some (.int .u8 q) := (b3.cell (p := ⟨b, off + 3, none⟩) (by omega)).trans hc3
    have o3r := Rd.of_own o3
    obtain ⟨kk0, kk1, kk2, kk3⟩ := cells4 hg3
    have HG3 := Lib.hid hg3
    have HH3 := Lib.hid hh3
    have hgz : g < W3.heap.size := (Array.getElem?_eq_some_iff.1 hg3).1
    have hbz : b < W3.heap.size := by have := b3.size; omega
    clear hg3 hh3 hk0 hk1 hk2 hk3 c0 c1 c2 o2 g2 b2
    have hB6 : B ≤ W3.drew.heap.size := Nat.le_trans hB b3.size
    have hwz : w.heap.size < W3.heap.size := by have := HZ5.out; have := (Array.getElem?_eq_some_iff.1 HH3.out).1; omega
    have p0 := PastW.cell hgz kk0
    have p1 := PastW.cell hgz kk1
    have p2 := PastW.cell hgz kk2
    have p3 := PastW.cell hgz kk3
    have pq := PastW.cell hbz hk3'
    clear kk0 kk1 kk2 kk3 hk3'
    have hBz : B ≤ W3.heap.size := Nat.le_trans hB b3.size
    rcases hok : frOk t f k m with _ | _
    · have HN : Hid (frFine xs = false) := Lib.hid (by rw [HFS.out, hok]; rfl)
      have HOK := Lib.hid hok
      clear hok
      refine wp_region_past W3.heap.size (by kernel_rfl) (by kernel_rfl) ?_
      repeat (go_big_quiet_step (((go_at_call 54; exact past_call (Nat.le_refl _) _ (HOK.out ▸ frameOk_spec t f k A2 m cc2 _ (by omega))))))
      refine wpQuiet_nil ?_
      intro w6 hw6
      have b6 : Below W3.heap.size W3 w6 := (by obtain ⟨p6, rfl⟩ := hw6; exact p6.below)
      clear hw6 p0 p1 p2 p3 pq
      have hh6 := (b6.block w.heap.size hwz).trans HH3.out
      obtain ⟨j0, j1, j2, j3⟩ := cells4 hh6
      obtain ⟨f0, f1, f2, f3⟩ := frozen4 hh6
      clear hh6
      go_wp2
      refine bodyPost_ret (v := .tuple #[.agg #[.int .i64 0, .int .i64 0, .int .i64 0, .slice none 0 0], .bool false]) (by simp [results, Try.results24, go_sem, j0, j1, j2, j3]) rfl (RetFr.no HN.out ?_)
      exact ((((b3.trans (b6.mono b3.size)).setCell (Nat.le_refl _) _).setCell (Nat.le_refl _) _).setCell (Nat.le_refl _) _).setCell (Nat.le_refl _) _
    rcases hq : (q == (m : Int)) with _ | _
    · have HN : Hid (frFine xs = false) := Lib.hid (by rw [HFS.out, hok, hq]; rfl)
      have HOK := Lib.hid hok
      have hq2 : ¬ q = (m : Int) := by simpa using hq
      have hq3 : (q != (m : Int)) = true := by simpa using hq
      clear hok
      refine wp_region_past W3.heap.size (by kernel_rfl) (by kernel_rfl) ?_
      repeat (go_big_quiet_step (((go_at_call 54; exact past_call (Nat.le_refl _) _ (HOK.out ▸ frameOk_spec t f k A2 m cc2 _ (by omega))))))
      refine wpQuiet_nil ?_
      intro w6 hw6
      have b6 : Below W3.heap.size W3 w6 := (by obtain ⟨p6, rfl⟩ := hw6; exact p6.below)
      clear hw6 p0 p1 p2 p3 pq
      have hh6 := (b6.block w.heap.size hwz).trans HH3.out
      obtain ⟨j0, j1, j2, j3⟩ := cells4 hh6
      obtain ⟨f0, f1, f2, f3⟩ := frozen4 hh6
      clear hh6
      go_wp2
      refine bodyPost_ret (v := .tuple #[.agg #[.int .i64 0, .int .i64 0, .int .i64 0, .slice none 0 0], .bool false]) (by simp [results, Try.results24, go_sem, j0, j1, j2, j3]) rfl (RetFr.no HN.out ?_)
      exact ((((b3.trans (b6.mono b3.size)).setCell (Nat.le_refl _) _).setCell (Nat.le_refl _) _).setCell (Nat.le_refl _) _).setCell (Nat.le_refl _) _
    rcases hn : (na == sm) with _ | _
    · have HN : Hid (frFine xs = false) := Lib.hid (by rw [HFS.out, hok, hq, hn]; rfl)
      have HOK := Lib.hid hok
      have hq2 : q = (m : Int) := by simpa using hq
      have hn2 : ¬ na = sm := by simpa using hn
      have hn3 : (na != sm) = true := by simpa using hn
      clear hok
      refine wp_region_past W3.heap.size (by kernel_rfl) (by kernel_rfl) ?_
      repeat (go_big_quiet_step ((first | (go_at_call 54; exact past_call (Nat.le_refl _) _ (HOK.out ▸ frameOk_spec t f k A2 m cc2 _ (by omega))) | (go_at_call 60; exact past_same (v := .int .i64 na) _ (by rw [HNA.out]; exact numberAtS_any _ _ c B xs m4 2 _ (PastW.rd h3 hBz _) (by omega))) | (go_at_call 56; exact past_same (v := .int .i64 sm) _ (by rw [HSM.out]; exact sumOf_spec _ _ _ B (xs.take (m + 4)) _ (PastW.rd rt3 hBz _) (by omega))))))
      refine wpQuiet_nil ?_
      intro w6 hw6
      have b6 : Below W3.heap.size W3 w6 := (by obtain ⟨p6, rfl⟩ := hw6; exact p6.below)
      clear hw6 p0 p1 p2 p3 pq
      have hh6 := (b6.block w.heap.size hwz).trans HH3.out
      obtain ⟨j0, j1, j2, j3⟩ := cells4 hh6
      obtain ⟨f0, f1, f2, f3⟩ := frozen4 hh6
      clear hh6
      go_wp2
      refine bodyPost_ret (v := .tuple #[.agg #[.int .i64 0, .int .i64 0, .int .i64 0, .slice none 0 0], .bool false]) (by simp [results, Try.results24, go_sem, j0, j1, j2, j3]) rfl (RetFr.no HN.out ?_)
      exact ((((b3.trans (b6.mono b3.size)).setCell (Nat.le_refl _) _).setCell (Nat.le_refl _) _).setCell (Nat.le_refl _) _).setCell (Nat.le_refl _) _
    · have HN : Hid (frFine xs = true) := Lib.hid (by rw [HFS.out, hok, hq, hn]; rfl)
      have HOK := Lib.hid hok
      have hq2 : q = (m : Int) := by simpa using hq
      have hn2 : na = sm := by simpa using hn
      clear hok
      refine wp_region_past W3.heap.size (by kernel_rfl) (by kernel_rfl) ?_
      repeat (go_big_quiet_step ((first | (go_at_call 54; exact past_call (Nat.le_refl _) _ (HOK.out ▸ frameOk_spec t f k A2 m cc2 _ (by omega))) | (go_at_call 60; exact past_same (v := .int .i64 na) _ (by rw [HNA.out]; exact numberAtS_any _ _ c B xs m4 2 _ (PastW.rd h3 hBz _) (by omega))) | (go_at_call 56; exact past_same (v := .int .i64 sm) _ (by rw [HSM.out]; exact sumOf_spec _ _ _ B (xs.take (m + 4)) _ (PastW.rd rt3 hBz _) (by omega))))))
      refine wpQuiet_nil ?_
      intro w6 hw6
      have b6 : Below W3.heap.size W3 w6 := (by obtain ⟨p6, rfl⟩ := hw6; exact p6.below)
      clear hw6 p0 p1 p2 p3 pq
      have hh6 := (b6.block w.heap.size hwz).trans HH3.out
      have hg6 := (b6.block g hgz).trans HG3.out
      obtain ⟨j0, j1, j2, j3⟩ := cells4 hh6
      obtain ⟨k0, k1, k2, k3⟩ := cells4 hg6
      obtain ⟨f0, f1, f2, f3⟩ := frozen4 hh6
      clear hh6 hg6
      have o7 := own_below o3 b6 (Nat.le_refl _)
      go_wp2
      refine bodyPost_ret (v := .tuple #[.agg #[.int .i64 t, .int .i64 f, .int .i64 k, .slice A2 m cc2], .bool true]) (by simp [results, Try.results24, go_sem, j0, j1, j2, j3]) rfl ?_
      rw [HT.out, HFF.out, HK.out]
      rw [HDS.out] at o7
      have hsz := HZ5.out
      refine .inl ⟨HN.out, A2, m, cc2, rfl, own_base (ownsRow_setCell_below (ownsRow_setCell_below (ownsRow_setCell_below (ownsRow_setCell_below o7 (by simp; omega) _) (by simp; omega) _) (by simp; omega) _) (by simp; omega) _) (by omega), ?_⟩
      exact ((((b3.trans (b6.mono b3.size)).setCell (Nat.le_refl _) _).setCell (Nat.le_refl _) _).setCell (Nat.le_refl _) _).setCell (Nat.le_refl _) _
end Go.Proofs.Ytnnpijjdjdnffaa
