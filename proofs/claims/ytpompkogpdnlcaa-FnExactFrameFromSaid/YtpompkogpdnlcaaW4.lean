import Derived.Test.YtpompkogpdnlcaaW3
import Derived.Test.YtpompkogpdnlcaaC2b
import Derived.Test.YtpompkogpdnlcaaC2c
import Derived.Test.YtpompkogpdnlcaaFr2
namespace Go.Proofs.Ytpompkogpdnlcaa
open Go.ChangeShapes Go.WideShapes Go.ChangeAt Go.RowKit

theorem frBytes_le (t f k : Int) (xs : List UInt8) : (frBytes t f k xs).length ≤ 70 := by
  rcases ho : frOk t f k xs.length with _ | _
  · rw [frBytes_no ho]; simp
  · rw [frBytes_len ho]; have := (frOk_iff.1 ho).2.2.2; omega
/-- a block holds this -/
def Blk (w : World) (g : Nat) (cs : Array Value) (T : TypeId) : Prop := w.heap[g]? = some (.cells cs T (0, 0))
theorem Blk.lt {w : World} {g : Nat} {cs : Array Value} {T : TypeId} (h : Blk w g cs T) : g < w.heap.size := (Array.getElem?_eq_some_iff.1 h).1
theorem Blk.on {w w' : World} {g B : Nat} {cs : Array Value} {T : TypeId} (h : Blk w g cs T) (b : Below B w w') (hg : g < B) : Blk w' g cs T := (b.block g hg).trans h
theorem Blk.onS {w w' : World} {g : Nat} {cs : Array Value} {T : TypeId} (h : Blk w g cs T) (b : Below w.heap.size w w') : Blk w' g cs T := h.on b h.lt
theorem Blk.grown {w w' : World} {g : Nat} {r : Option Nat} {cs : Array Value} {T : TypeId} (h : Blk w g cs T) (b : w.grownBy w' r) (hg : r ≠ some g) : Blk w' g cs T := (b.block g h.lt (fun e => hg e.symm)).trans h
theorem own_on {w w' : World} {B n : Nat} {e : TypeId} {v : Value} {xs : List Value} (h : w.ownsRow B e 1 v n xs) (b : Below w.heap.size w w') : w'.ownsRow B e 1 v n xs := own_below h b (Nat.le_refl _)
/-- two rows, the one of them older -/
theorem own_ne {w w' : World} {B B' n n' : Nat} {e e' : TypeId} {v v' : Value} {xs ys : List Value} (h : w.ownsRow B e 1 v n xs) (h' : w'.ownsRow B' e' 1 v' n' ys) (hB : w.heap.size ≤ B') : v'.ownBlock = none ∨ v'.ownBlock ≠ v.ownBlock := by
  rcases hv : v'.ownBlock with _ | g
  · exact .inl rfl
  · refine .inr fun e => ?_
    have h1 := (h'.lt g hv).1
    have h2 := (h.lt g e.symm).2
    omega

set_option maxHeartbeats 1000000 in
theorem walk_ExactFrameBytes (t f k : Int) (A : Option Addr) (n c : Nat) (xs : List UInt8) (w : World) (h : Rd w w.heap.size A n (bv xs)) (hn : n ≤ 9223372036854775807) :
    Calls Try.prog 8 #[fr4 t f k A n c] w fun e w' => e = .returned (.bool true) ∧ Below w.heap.size w w' := by
  have HL := Lib.hid (rd_len h)
  have HR := Lib.hid h
  clear h
  by_cases hbig : 1048576 < n
  · have HZ := Lib.hid (szLeft_no (l := 1048576) (n := n) (by omega))
    have HB := Lib.hid (show Below w.heap.size w (w.alloc (.cells #[.int .i64 t, .int .i64 f, .int .i64 k, .slice A n c] 38)) from (Below.refl _ _).alloc (Nat.le_refl _) _)
    go_enter Try.func8, Try.ntmps8
    go_wp2_with (go_at_call 26; refine (szFrame_any t f k A n c 1048576 _ hn (by omega)).mono ?_; rw [HZ.out]; rintro e w1 ⟨rfl, b1⟩)
    go_ret
    exact ⟨rfl, HB.out.trans (b1.mono HB.out.size)⟩
  have hn2 : n ≤ 1048576 := by omega
  obtain ⟨s, hs, hs0⟩ : ∃ s : Int, s = szLeft 1048576 n ∧ ¬ s < 0 := ⟨_, rfl, by rw [szLeft_yes (by omega)]; omega⟩
  have HZ := Lib.hid hs
  have hy := frBytes_le t f k xs
  obtain ⟨ys, hq⟩ : ∃ ys, ys = frBytes t f k xs := ⟨_, rfl⟩
  rw [← hq] at hy
  have HQ := Lib.hid hq
  have HE : Hid ((t == t && f == f && k == k && xs == xs) = true) := Lib.hid (by simp)
  have HY : Hid ((ys == ys) = true) := Lib.hid (by simp)
  clear hs hq hbig
  go_enter Try.func8, Try.ntmps8
  go_wp2_with fail
  refine name_calls fun W0 hW0 => ?_
  have HB0 := Lib.hid (show Below w.heap.size w W0 by rw [hW0]; exact (Below.refl _ _).alloc (Nat.le_refl _) _)
  have HG0 := Lib.hid (show Blk W0 w.heap.size #[.int .i64 t, .int .i64 f, .int .i64 k, .slice A n c] 38 by rw [hW0]; exact box_new)
  clear hW0
  refine (szFrame_any t f k A n c 1048576 _ hn (by omega)).mono ?_
  rw [← HZ.out]
  rintro e w1 ⟨rfl, b1⟩
  have HB1 := Lib.hid (HB0.out.trans (b1.mono HB0.out.size))
  have HG1 := Lib.hid (HG0.out.onS b1)
  obtain ⟨k0, k1, k2, k3⟩ := cells4 HG1.out
  clear b1 HG0 HB0
  go_wp2_with fail
  refine (toFrame_any t f k A n c xs w1 ((HR.out.below HB1.out).up HB1.out.size) (by omega)).mono ?_
  rintro e w2 ⟨A2, n2, c2, rfl, o2, b2⟩
  obtain rfl : n2 = n := (own_len o2).trans HL.out.symm
  have HB2 := Lib.hid (HB1.out.trans (b2.mono HB1.out.size))
  have HG2 := Lib.hid (HG1.out.onS b2)
  have r2 := Rd.of_own o2
  clear k0 k1 k2 k3 o2 b2 HB1 HG1
  go_wp2_with fail
  refine (frameBytes_spec t f k A2 n2 c2 w2.heap.size xs w2 r2 (Nat.le_refl _) (by omega)).mono ?_
  rw [← HQ.out]
  rintro e w3 ⟨Aw, nw, cw, rfl, ow3, b3⟩
  have hnw := own_len ow3
  have HB3 := Lib.hid (HB2.out.trans (b3.mono HB2.out.size))
  have HG3 := Lib.hid (HG2.out.onS b3)
  have HW3 := Lib.hid (Rd.of_own ow3)
  have HNW := Lib.hid hnw
  obtain ⟨k0, k1, k2, k3⟩ := cells4 HG3.out
  clear r2 b3 ow3 hnw HB2 HG2
  go_wp2_with fail
  refine (toFrame_any t f k A n2 c xs w3 ((HR.out.below HB3.out).up HB3.out.size) (by omega)).mono ?_
  rintro e w4 ⟨A4, n4, c4, rfl, o4, b4⟩
  obtain rfl : n4 = n2 := (own_len o4).trans HL.out.symm
  clear k0 k1 k2 k3
  go_wp2_with fail
  refine name_calls fun W5 hW5 => ?_
  have hb5 : Below w3.heap.size w3 W5 := by rw [hW5]; exact b4.alloc b4.size _
  have HB5 := Lib.hid (HB3.out.trans (hb5.mono HB3.out.size))
  have HG5 := Lib.hid (HG3.out.onS hb5)
  have HW5 := Lib.hid (HW3.out.below hb5)
  have HX5 := Lib.hid (show Blk W5 w4.heap.size #[.int .i64 t, .int .i64 f, .int .i64 k, .slice A4 n4 c4] 24 by rw [hW5]; exact box_new)
  have HO5 := Lib.hid (show W5.ownsRow w3.heap.size 5 1 (.slice A4 n4 c4) n4 (bv xs) by rw [hW5]; exact o4.alloc _)
  have HS := Lib.hid (show w3.heap.size ≤ W5.heap.size from hb5.size)
  have HB5s := Lib.hid (show w.heap.size ≤ W5.heap.size from HB5.out.size)
  have HB5l := Lib.hid (show w.heap.size < W5.heap.size from HG5.out.lt)
  have HL3 := Lib.hid HG3.out.lt
  clear hW5 hb5 b4 o4 HB3 HG3
  refine (frameBytes_impl t f k A4 n4 c4 W5.heap.size xs W5 (Rd.of_own HO5.out) (Nat.le_refl _) (by omega)).mono ?_
  rw [← HQ.out]
  rintro e w6 ⟨Ag, ng, cg, rfl, og6, b6⟩
  have HNG := Lib.hid (own_len og6)
  have HB6 := Lib.hid (HB5.out.trans (b6.mono HB5.out.size))
  have HG6 := Lib.hid (HG5.out.onS b6)
  have HX6 := Lib.hid (HX5.out.onS b6)
  have HW6 := Lib.hid (HW5.out.below (b6.mono HS.out))
  have HO6 := Lib.hid (own_on HO5.out b6)
  have HP6 := Lib.hid og6
  have HSO := Lib.hid (own_ne HO5.out og6 (Nat.le_refl _))
  generalize w4.heap.size = g4 at HX5 HX6 ⊢
  have HS6 := Lib.hid (Nat.le_trans HS.out b6.size)
  clear b6 og6 HB5 HG5 HX5 HW5 HO5
  go_wp2_with fail
  refine (eqByteS_any _ _ _ _ _ _ w6.heap.size ys ys w6 (Rd.of_own HP6.out) (HW6.out.up HS6.out) (by have := HNG.out; omega) (by have := HNW.out; omega)).mono ?_
  rw [HY.out]
  rintro e w7 ⟨rfl, b7⟩
  have HB7 := Lib.hid (HB6.out.trans (b7.mono HB6.out.size))
  have HG7 := Lib.hid (HG6.out.onS b7)
  have HX7 := Lib.hid (HX6.out.onS b7)
  have HW7 := Lib.hid (HW6.out.below (b7.mono HS6.out))
  have HO7 := Lib.hid (own_on HO6.out b7)
  have HP7 := Lib.hid (own_on HP6.out b7)
  have HS7 := Lib.hid (Nat.le_trans HS6.out b7.size)
  obtain ⟨k0, k1, k2, k3⟩ := cells4 HG7.out
  obtain ⟨j0, j1, j2, j3⟩ := cells4 HX7.out
  clear b7 HB6 HG6 HX6 HW6 HO6 HP6 HS6
  go_wp2_with fail
  go_region_held3 (fun w' => w'.cell? ⟨g4, 0, none⟩ = some (.int .i64 t) ∧ w'.cell? ⟨g4, 1, none⟩ = some (.int .i64 f) ∧ w'.cell? ⟨g4, 2, none⟩ = some (.int .i64 k) ∧ w'.cell? ⟨g4, 3, none⟩ = some (.slice A4 n4 c4) ∧ w'.cell? ⟨w.heap.size, 0, none⟩ = some (.int .i64 t) ∧ w'.cell? ⟨w.heap.size, 1, none⟩ = some (.int .i64 f) ∧ w'.cell? ⟨w.heap.size, 2, none⟩ = some (.int .i64 k) ∧ w'.cell? ⟨w.heap.size, 3, none⟩ = some (.slice A n4 c))
    (first | go_keep)
    (first
      | (go_at_call 27; refine (toFrame_any t f k A n4 c xs _ ((HR.out.below (HB7.out.trans (Below.refl _ _).drew)).up HB7.out.size) (by omega)).mono ?_; rintro e w8 ⟨A8, n8, c8, rfl, o8, b8⟩; have b8' := undrew b8; obtain ⟨k0, k1, k2, k3⟩ := cells4 (HG7.out.onS b8'); obtain ⟨j0, j1, j2, j3⟩ := cells4 (HX7.out.onS b8'))
      | (go_at_call 28; refine (eqFrame_any t f k t f k A4 A8 n4 n8 c4 c8 w8.heap.size xs xs _ (((Rd.of_own HO7.out).below b8').up b8'.size) (Rd.of_own o8) (Nat.le_refl _) (by omega) (by have := own_len o8; have := HL.out; omega)).mono ?_; rw [HE.out]; rintro e w9 ⟨rfl, b9⟩; have b9' := b8'.trans (b9.mono b8'.size); obtain ⟨k0, k1, k2, k3⟩ := cells4 (HG7.out.onS b9'); obtain ⟨j0, j1, j2, j3⟩ := cells4 (HX7.out.onS b9')))
  have HB9 := Lib.hid (HB7.out.trans (b9'.mono HB7.out.size))
  have HG9 := Lib.hid (HG7.out.onS b9')
  have HX9 := Lib.hid (HX7.out.onS b9')
  have HW9 := Lib.hid (HW7.out.below (b9'.mono HS7.out))
  have HO9 := Lib.hid (own_on HO7.out b9')
  have HP9 := Lib.hid (own_on HP7.out b9')
  have HS9 := Lib.hid (Nat.le_trans HS7.out b9'.size)
  clear k0 k1 k2 k3 j0 j1 j2 j3 b8 b8' o8 b9 b9' HB7 HG7 HX7 HW7 HO7 HP7 HS7
  obtain ⟨j0, j1, j2, j3⟩ := cells4 HX9.out
  go_wp2_with fail
  refine (markFrame_any t f k A4 n4 c4 w3.heap.size 1 xs w9 HO9.out HS9.out (by omega) (by omega)).mono ?_
  rintro e w10 ⟨rfl, o10, b10, g10⟩
  have hz3 : w.heap.size < w3.heap.size := HL3.out
  have HB10 := Lib.hid (HB9.out.trans (b10.mono (Nat.le_of_lt hz3)))
  have HG10 := Lib.hid (HG9.out.on b10 hz3)
  have HW10 := Lib.hid (HW9.out.below b10)
  have HP10 := Lib.hid (HP9.out.kept g10 HSO.out)
  have HS10 := Lib.hid (Nat.le_trans HS9.out b10.size)
  have hm : ¬ ((1 + n4 : Nat) : Int) < 0 := by omega
  clear j0 j1 j2 j3 o10 b10 g10 HB9 HG9 HX9 HW9 HO9 HP9 HS9 hz3
  go_wp2_with fail
  refine (eqByteS_any _ _ _ _ _ _ w10.heap.size ys ys w10 (Rd.of_own HP10.out) (HW10.out.up HS10.out) (by have := HNG.out; omega) (by have := HNW.out; omega)).mono ?_
  rw [HY.out]
  rintro e w11 ⟨rfl, b11⟩
  have HB11 := Lib.hid (HB10.out.trans (b11.mono HB10.out.size))
  have HG11 := Lib.hid (HG10.out.onS b11)
  have HW11 := Lib.hid (HW10.out.below (b11.mono HS10.out))
  have HP11 := Lib.hid (own_on HP10.out b11)
  have HS11 := Lib.hid (Nat.le_trans HS10.out b11.size)
  clear b11 HB10 HG10 HW10 HP10 HS10
  go_wp2_with fail
  refine (markByteS_any Ag ng cg W5.heap.size 1 ys w11 HP11.out (by have := HNG.out; omega) (by omega)).mono ?_
  rintro e w12 ⟨rfl, o12, b12, g12⟩
  have HB12 := Lib.hid (HB11.out.trans (b12.mono HB5s.out))
  have HG12 := Lib.hid (HG11.out.on b12 HB5l.out)
  have HW12 := Lib.hid (HW11.out.below (b12.mono HS.out))
  have HP12 := Lib.hid o12
  have HS12 := Lib.hid (Nat.le_trans HS11.out b12.size)
  have hm2 : ¬ ((1 + ng : Nat) : Int) < 0 := by omega
  clear o12 b12 g12 HB11 HG11 HW11 HP11 HS11
  go_wp2_with fail
  refine (heldByteS_any Ag ng cg w12.heap.size 1 w12 (Rd.of_own HP12.out) (by have := HNG.out; omega) (by omega)).mono ?_
  rintro e w12' ⟨rfl, rfl⟩
  have hq : (((1 + ng : Nat) : Int) != ((1 + ng : Nat) : Int)) = false := by simp
  obtain ⟨k0, k1, k2, k3⟩ := cells4 HG12.out
  go_wp2_with fail
  refine (toFrame_any t f k A n4 c xs w12 ((HR.out.below HB12.out).up HB12.out.size) (by omega)).mono ?_
  rintro e w13 ⟨A13, n13, c13, rfl, o13, b13⟩
  obtain rfl : n13 = n4 := (own_len o13).trans HL.out.symm
  have HB13 := Lib.hid (HB12.out.trans (b13.mono HB12.out.size))
  have HW13 := Lib.hid (HW12.out.below (b13.mono HS12.out))
  have HP13 := Lib.hid (own_on HP12.out b13)
  have HS13 := Lib.hid (Nat.le_trans HS12.out b13.size)
  have r13 := Rd.of_own o13
  clear k0 k1 k2 k3 b13 o13 HB12 HG12 HW12 HP12 HS12
  go_wp2_with fail
  refine (frameBytes_impl t f k A13 n13 c13 w13.heap.size xs w13 r13 (Nat.le_refl _) (by omega)).mono ?_
  rw [← HQ.out]
  rintro e w14 ⟨Ah, nh, ch, rfl, o14, b14⟩
  have HNH := Lib.hid (own_len o14)
  have HB14 := Lib.hid (HB13.out.trans (b14.mono HB13.out.size))
  have HW14 := Lib.hid (HW13.out.below (b14.mono HS13.out))
  have HP14 := Lib.hid (own_on HP13.out b14)
  have HS14 := Lib.hid (Nat.le_trans HS13.out b14.size)
  have r14 := Rd.of_own o14
  clear r13 b14 o14 HB13 HW13 HP13 HS13
  go_wp2_with fail
  refine (eqByteS_any _ _ _ _ _ _ w14.heap.size ys ys w14 r14 (HW14.out.up HS14.out) (by have := HNH.out; omega) (by have := HNW.out; omega)).mono ?_
  rw [HY.out]
  rintro e w15 ⟨rfl, b15⟩
  have HB15 := Lib.hid (HB14.out.trans (b15.mono HB14.out.size))
  have HP15 := Lib.hid (own_on HP14.out b15)
  clear r14 b15 HB14 HW14 HP14 HS14
  go_wp2_with fail
  refine (heldByteS_any Ag ng cg w15.heap.size 1 w15 (Rd.of_own HP15.out) (by have := HNG.out; omega) (by omega)).mono ?_
  rintro e w15' ⟨rfl, rfl⟩
  go_wp2
  go_ret
  exact ⟨rfl, HB15.out⟩
end Go.Proofs.Ytpompkogpdnlcaa
