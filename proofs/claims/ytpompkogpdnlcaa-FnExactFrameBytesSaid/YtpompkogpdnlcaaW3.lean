import Derived.Test.YtpompkogpdnlcaaLw4
import Derived.Test.YtpompkogpdnlcaaC2a
import Derived.Test.YtpompkogpdnlcaaC2g
import Derived.Deep.RegionHeld3
namespace Go.Proofs.Ytpompkogpdnlcaa
open Go.ChangeShapes Go.WideShapes Go.ChangeAt Go.RowKit

/-- the block of a struct of four cells -/
theorem box_new {w : World} {o : Obj} : (w.alloc o).heap[w.heap.size]? = some o := heap_alloc_new w o

set_option maxHeartbeats 1000000 in
theorem walk_ExactFrameOk (t f k : Int) (A : Option Addr) (n c : Nat) (xs : List UInt8) (w : World) (h : Rd w w.heap.size A n (bv xs)) (hn : n ≤ 9223372036854775807) :
    Calls Try.prog 7 #[fr4 t f k A n c] w fun e w' => e = .returned (.bool true) ∧ Below w.heap.size w w' := by
  have HL := Lib.hid (rd_len h)
  have HR := Lib.hid h
  clear h
  by_cases hbig : 1048576 < n
  · have HZ := Lib.hid (szLeft_no (l := 1048576) (n := n) (by omega))
    have HB := Lib.hid (show Below w.heap.size w (w.alloc (.cells #[.int .i64 t, .int .i64 f, .int .i64 k, .slice A n c] 38)) from (Below.refl _ _).alloc (Nat.le_refl _) _)
    go_enter Try.func7, Try.ntmps7
    go_wp2_with (go_at_call 26; refine (szFrame_any t f k A n c 1048576 _ hn (by omega)).mono ?_; rw [HZ.out]; rintro e w1 ⟨rfl, b1⟩)
    go_ret
    exact ⟨rfl, HB.out.trans (b1.mono HB.out.size)⟩
  have hn2 : n ≤ 1048576 := by omega
  obtain ⟨s, hs, hs0⟩ : ∃ s : Int, s = szLeft 1048576 n ∧ ¬ s < 0 := ⟨_, rfl, by rw [szLeft_yes (by omega)]; omega⟩
  have HZ := Lib.hid hs
  obtain ⟨q, hq⟩ : ∃ q, q = frOk t f k n := ⟨_, rfl⟩
  have HQ := Lib.hid hq
  have HE : Hid ((t == t && f == f && k == k && xs == xs) = true) := Lib.hid (by simp)
  clear hs hq hbig
  go_enter Try.func7, Try.ntmps7
  go_wp2_with fail
  refine name_calls fun W0 hW0 => ?_
  have HB0 := Lib.hid (show Below w.heap.size w W0 by rw [hW0]; exact (Below.refl _ _).alloc (Nat.le_refl _) _)
  have HS0 := Lib.hid (show W0.heap.size = w.heap.size + 1 by rw [hW0]; simp)
  have HG0 := Lib.hid (show W0.heap[w.heap.size]? = some (.cells #[.int .i64 t, .int .i64 f, .int .i64 k, .slice A n c] 38 (0, 0)) by rw [hW0]; exact box_new)
  clear hW0
  refine (szFrame_any t f k A n c 1048576 _ hn (by omega)).mono ?_
  rw [← HZ.out]
  rintro e w1 ⟨rfl, b1⟩
  have HB1 := Lib.hid (HB0.out.trans (b1.mono HB0.out.size))
  have HG1 := Lib.hid ((b1.block w.heap.size (by have := HS0.out; omega)).trans HG0.out)
  have hz1 : w.heap.size < w1.heap.size := (Array.getElem?_eq_some_iff.1 HG1.out).1
  obtain ⟨k0, k1, k2, k3⟩ := cells4 HG1.out
  clear b1
  go_wp2_with fail
  refine (toFrame_any t f k A n c xs w1 ((HR.out.below HB1.out).up HB1.out.size) (by omega)).mono ?_
  rintro e w2 ⟨A2, n2, c2, rfl, o2, b2⟩
  obtain rfl : n2 = n := (own_len o2).trans HL.out.symm
  clear k0 k1 k2 k3 o2
  go_wp2_with fail
  refine (frameOk_spec t f k A2 n2 c2 w2 (by omega)).mono ?_
  rw [← HQ.out]
  rintro e w3 ⟨rfl, b3⟩
  have hb3 := (b2.trans (b3.mono b2.size))
  have HB3 := Lib.hid (HB1.out.trans (hb3.mono HB1.out.size))
  have HG3 := Lib.hid ((hb3.block w.heap.size hz1).trans HG1.out)
  have hz3 : w.heap.size < w3.heap.size := (Array.getElem?_eq_some_iff.1 HG3.out).1
  obtain ⟨k0, k1, k2, k3⟩ := cells4 HG3.out
  clear hb3 b2 b3
  go_wp2_with fail
  refine (toFrame_any t f k A n2 c xs w3 ((HR.out.below HB3.out).up HB3.out.size) (by omega)).mono ?_
  rintro e w4 ⟨A4, n4, c4, rfl, o4, b4⟩
  obtain rfl : n4 = n2 := (own_len o4).trans HL.out.symm
  clear k0 k1 k2 k3
  go_wp2_with fail
  refine name_calls fun W5 hW5 => ?_
  have hb5 : Below w3.heap.size w3 W5 := by rw [hW5]; exact b4.alloc b4.size _
  have HB5 := Lib.hid (HB3.out.trans (hb5.mono HB3.out.size))
  have HG5 := Lib.hid ((hb5.block w.heap.size hz3).trans HG3.out)
  have HX5 := Lib.hid (show W5.heap[w4.heap.size]? = some (.cells #[.int .i64 t, .int .i64 f, .int .i64 k, .slice A4 n4 c4] 24 (0, 0)) by rw [hW5]; exact box_new)
  have HR5 := Lib.hid (show Rd W5 W5.heap.size A4 n4 (bv xs) by rw [hW5]; exact Rd.of_own (o4.alloc _))
  have hz5 : w4.heap.size < W5.heap.size := (Array.getElem?_eq_some_iff.1 HX5.out).1
  have hz5' : w.heap.size < W5.heap.size := (Array.getElem?_eq_some_iff.1 HG5.out).1
  clear hW5 hb5 b4 o4
  refine (frameOk_impl t f k A4 n4 c4 W5 (by omega)).mono ?_
  rw [← HQ.out]
  rintro e w6 ⟨rfl, b6⟩
  have HB6 := Lib.hid (HB5.out.trans (b6.mono HB5.out.size))
  have HG6 := Lib.hid ((b6.block w.heap.size hz5').trans HG5.out)
  have HX6 := Lib.hid ((b6.block w4.heap.size hz5).trans HX5.out)
  have HR6 := Lib.hid ((HR5.out.below b6).up b6.size)
  generalize w4.heap.size = g4 at HX6 ⊢
  obtain ⟨k0, k1, k2, k3⟩ := cells4 HG6.out
  obtain ⟨j0, j1, j2, j3⟩ := cells4 HX6.out
  have hz6 : w.heap.size < w6.heap.size := (Array.getElem?_eq_some_iff.1 HG6.out).1
  have hz6' : g4 < w6.heap.size := (Array.getElem?_eq_some_iff.1 HX6.out).1
  have hqq : (q != q) = false := by simp
  clear b6 HX5 HG5 HR5 hz5 hz5'
  go_wp2_with fail
  go_region_held3 (fun w' => w'.cell? ⟨g4, 0, none⟩ = some (.int .i64 t) ∧ w'.cell? ⟨g4, 1, none⟩ = some (.int .i64 f) ∧ w'.cell? ⟨g4, 2, none⟩ = some (.int .i64 k) ∧ w'.cell? ⟨g4, 3, none⟩ = some (.slice A4 n4 c4) ∧ w'.cell? ⟨w.heap.size, 0, none⟩ = some (.int .i64 t) ∧ w'.cell? ⟨w.heap.size, 1, none⟩ = some (.int .i64 f) ∧ w'.cell? ⟨w.heap.size, 2, none⟩ = some (.int .i64 k) ∧ w'.cell? ⟨w.heap.size, 3, none⟩ = some (.slice A n4 c))
    (first | go_keep)
    (first
      | (go_at_call 27; refine (toFrame_any t f k A n4 c xs _ ((HR.out.below (HB6.out.trans (Below.refl _ _).drew)).up HB6.out.size) (by omega)).mono ?_; rintro e w7 ⟨A7, n7, c7, rfl, o7, b7⟩; have b7' := undrew b7; obtain ⟨k0, k1, k2, k3⟩ := cells4 ((b7'.block w.heap.size hz6).trans HG6.out); obtain ⟨j0, j1, j2, j3⟩ := cells4 ((b7'.block g4 hz6').trans HX6.out))
      | (go_at_call 28; refine (eqFrame_any t f k t f k A4 A7 n4 n7 c4 c7 w7.heap.size xs xs _ ((HR6.out.below b7').up b7'.size) (Rd.of_own o7) (Nat.le_refl _) (by omega) (by have := own_len o7; have := HL.out; omega)).mono ?_; rw [HE.out]; rintro e w8 ⟨rfl, b8⟩; have b8' := b7'.trans (b8.mono b7'.size); obtain ⟨k0, k1, k2, k3⟩ := cells4 ((b8'.block w.heap.size hz6).trans HG6.out); obtain ⟨j0, j1, j2, j3⟩ := cells4 ((b8'.block g4 hz6').trans HX6.out)))
  all_goals
    go_wp2
    go_ret
    exact ⟨rfl, HB6.out.trans (b8'.mono HB6.out.size)⟩

set_option maxHeartbeats 1000000 in
theorem walk_ExactFrameFor (t f k : Int) (A : Option Addr) (n c : Nat) (xs : List UInt8) (l : Int) (w : World) (h : Rd w w.heap.size A n (bv xs)) (hn : n ≤ 9223372036854775807) (_ : (Lit.int .i64 l).wf = true) :
    Calls Try.prog 10 #[fr4 t f k A n c, .int .i64 l] w fun e w' => e = .returned (.bool true) ∧ Below w.heap.size w w' := by
  have HL := Lib.hid (rd_len h)
  have HR := Lib.hid h
  clear h
  by_cases hbig : 1048576 < n
  · have HZ := Lib.hid (szLeft_no (l := 1048576) (n := n) (by omega))
    have HB := Lib.hid (show Below w.heap.size w (w.alloc (.cells #[.int .i64 t, .int .i64 f, .int .i64 k, .slice A n c] 38)) from (Below.refl _ _).alloc (Nat.le_refl _) _)
    go_enter Try.func10, Try.ntmps10
    go_wp2_with (go_at_call 26; refine (szFrame_any t f k A n c 1048576 _ hn (by omega)).mono ?_; rw [HZ.out]; rintro e w1 ⟨rfl, b1⟩)
    go_ret
    exact ⟨rfl, HB.out.trans (b1.mono HB.out.size)⟩
  have hn2 : n ≤ 1048576 := by omega
  obtain ⟨s, hs, hs0⟩ : ∃ s : Int, s = szLeft 1048576 n ∧ ¬ s < 0 := ⟨_, rfl, by rw [szLeft_yes (by omega)]; omega⟩
  have HZ := Lib.hid hs
  obtain ⟨q, hq⟩ : ∃ q, q = frFor t f k n l := ⟨_, rfl⟩
  have HQ := Lib.hid hq
  have HE : Hid ((t == t && f == f && k == k && xs == xs) = true) := Lib.hid (by simp)
  clear hs hq hbig
  go_enter Try.func10, Try.ntmps10
  go_wp2_with fail
  refine name_calls fun W0 hW0 => ?_
  have HB0 := Lib.hid (show Below w.heap.size w W0 by rw [hW0]; exact (Below.refl _ _).alloc (Nat.le_refl _) _)
  have HS0 := Lib.hid (show W0.heap.size = w.heap.size + 1 by rw [hW0]; simp)
  have HG0 := Lib.hid (show W0.heap[w.heap.size]? = some (.cells #[.int .i64 t, .int .i64 f, .int .i64 k, .slice A n c] 38 (0, 0)) by rw [hW0]; exact box_new)
  clear hW0
  refine (szFrame_any t f k A n c 1048576 _ hn (by omega)).mono ?_
  rw [← HZ.out]
  rintro e w1 ⟨rfl, b1⟩
  have HB1 := Lib.hid (HB0.out.trans (b1.mono HB0.out.size))
  have HG1 := Lib.hid ((b1.block w.heap.size (by have := HS0.out; omega)).trans HG0.out)
  have hz1 : w.heap.size < w1.heap.size := (Array.getElem?_eq_some_iff.1 HG1.out).1
  obtain ⟨k0, k1, k2, k3⟩ := cells4 HG1.out
  clear b1
  go_wp2_with fail
  refine (toFrame_any t f k A n c xs w1 ((HR.out.below HB1.out).up HB1.out.size) (by omega)).mono ?_
  rintro e w2 ⟨A2, n2, c2, rfl, o2, b2⟩
  obtain rfl : n2 = n := (own_len o2).trans HL.out.symm
  clear k0 k1 k2 k3 o2
  go_wp2_with fail
  refine (frameFor_spec t f k l A2 n2 c2 w2 (by omega)).mono ?_
  rw [← HQ.out]
  rintro e w3 ⟨rfl, b3⟩
  have hb3 := (b2.trans (b3.mono b2.size))
  have HB3 := Lib.hid (HB1.out.trans (hb3.mono HB1.out.size))
  have HG3 := Lib.hid ((hb3.block w.heap.size hz1).trans HG1.out)
  have hz3 : w.heap.size < w3.heap.size := (Array.getElem?_eq_some_iff.1 HG3.out).1
  obtain ⟨k0, k1, k2, k3⟩ := cells4 HG3.out
  clear hb3 b2 b3
  go_wp2_with fail
  refine (toFrame_any t f k A n2 c xs w3 ((HR.out.below HB3.out).up HB3.out.size) (by omega)).mono ?_
  rintro e w4 ⟨A4, n4, c4, rfl, o4, b4⟩
  obtain rfl : n4 = n2 := (own_len o4).trans HL.out.symm
  clear k0 k1 k2 k3
  go_wp2_with fail
  refine name_calls fun W5 hW5 => ?_
  have hb5 : Below w3.heap.size w3 W5 := by rw [hW5]; exact b4.alloc b4.size _
  have HB5 := Lib.hid (HB3.out.trans (hb5.mono HB3.out.size))
  have HG5 := Lib.hid ((hb5.block w.heap.size hz3).trans HG3.out)
  have HX5 := Lib.hid (show W5.heap[w4.heap.size]? = some (.cells #[.int .i64 t, .int .i64 f, .int .i64 k, .slice A4 n4 c4] 24 (0, 0)) by rw [hW5]; exact box_new)
  have HR5 := Lib.hid (show Rd W5 W5.heap.size A4 n4 (bv xs) by rw [hW5]; exact Rd.of_own (o4.alloc _))
  have hz5 : w4.heap.size < W5.heap.size := (Array.getElem?_eq_some_iff.1 HX5.out).1
  have hz5' : w.heap.size < W5.heap.size := (Array.getElem?_eq_some_iff.1 HG5.out).1
  clear hW5 hb5 b4 o4
  refine (frameFor_impl t f k l A4 n4 c4 W5 (by omega)).mono ?_
  rw [← HQ.out]
  rintro e w6 ⟨rfl, b6⟩
  have HB6 := Lib.hid (HB5.out.trans (b6.mono HB5.out.size))
  have HG6 := Lib.hid ((b6.block w.heap.size hz5').trans HG5.out)
  have HX6 := Lib.hid ((b6.block w4.heap.size hz5).trans HX5.out)
  have HR6 := Lib.hid ((HR5.out.below b6).up b6.size)
  generalize w4.heap.size = g4 at HX6 ⊢
  obtain ⟨k0, k1, k2, k3⟩ := cells4 HG6.out
  obtain ⟨j0, j1, j2, j3⟩ := cells4 HX6.out
  have hz6 : w.heap.size < w6.heap.size := (Array.getElem?_eq_some_iff.1 HG6.out).1
  have hz6' : g4 < w6.heap.size := (Array.getElem?_eq_some_iff.1 HX6.out).1
  have hqq : (q != q) = false := by simp
  clear b6 HX5 HG5 HR5 hz5 hz5'
  go_wp2_with fail
  go_region_held3 (fun w' => w'.cell? ⟨g4, 0, none⟩ = some (.int .i64 t) ∧ w'.cell? ⟨g4, 1, none⟩ = some (.int .i64 f) ∧ w'.cell? ⟨g4, 2, none⟩ = some (.int .i64 k) ∧ w'.cell? ⟨g4, 3, none⟩ = some (.slice A4 n4 c4) ∧ w'.cell? ⟨w.heap.size, 0, none⟩ = some (.int .i64 t) ∧ w'.cell? ⟨w.heap.size, 1, none⟩ = some (.int .i64 f) ∧ w'.cell? ⟨w.heap.size, 2, none⟩ = some (.int .i64 k) ∧ w'.cell? ⟨w.heap.size, 3, none⟩ = some (.slice A n4 c))
    (first | go_keep)
    (first
      | (go_at_call 27; refine (toFrame_any t f k A n4 c xs _ ((HR.out.below (HB6.out.trans (Below.refl _ _).drew)).up HB6.out.size) (by omega)).mono ?_; rintro e w7 ⟨A7, n7, c7, rfl, o7, b7⟩; have b7' := undrew b7; obtain ⟨k0, k1, k2, k3⟩ := cells4 ((b7'.block w.heap.size hz6).trans HG6.out); obtain ⟨j0, j1, j2, j3⟩ := cells4 ((b7'.block g4 hz6').trans HX6.out))
      | (go_at_call 28; refine (eqFrame_any t f k t f k A4 A7 n4 n7 c4 c7 w7.heap.size xs xs _ ((HR6.out.below b7').up b7'.size) (Rd.of_own o7) (Nat.le_refl _) (by omega) (by have := own_len o7; have := HL.out; omega)).mono ?_; rw [HE.out]; rintro e w8 ⟨rfl, b8⟩; have b8' := b7'.trans (b8.mono b7'.size); obtain ⟨k0, k1, k2, k3⟩ := cells4 ((b8'.block w.heap.size hz6).trans HG6.out); obtain ⟨j0, j1, j2, j3⟩ := cells4 ((b8'.block g4 hz6').trans HX6.out)))
  all_goals
    go_wp2
    go_ret
    exact ⟨rfl, HB6.out.trans (b8'.mono HB6.out.size)⟩
end Go.Proofs.Ytpompkogpdnlcaa
