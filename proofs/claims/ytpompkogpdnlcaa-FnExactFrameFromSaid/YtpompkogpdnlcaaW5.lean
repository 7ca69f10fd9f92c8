import Derived.Test.YtpompkogpdnlcaaW4
import Derived.Test.YtpompkogpdnlcaaC2d
import Derived.Test.YtpompkogpdnlcaaC2f
namespace Go.Proofs.Ytpompkogpdnlcaa
open Go.ChangeShapes Go.WideShapes Go.ChangeAt Go.RowKit

/-- the parts of the frame whose bytes these are; of none where there is none -/
def fnT (xs : List UInt8) : Int := if frFine xs then frT0 xs else 0
def fnF (xs : List UInt8) : Int := if frFine xs then frF0 xs else 0
def fnK (xs : List UInt8) : Int := if frFine xs then frK0 xs else 0
def fnD (xs : List UInt8) : List UInt8 := if frFine xs then frD0 xs else []
theorem RetFr.one {xs : List UInt8} {B : Nat} {w w' : World} {e : Ending} (h : RetFr xs B w e w') : RetF B (fnT xs) (fnF xs) (fnK xs) (fnD xs) (frFine xs) w e w' := by
  rcases h with ⟨h, h'⟩ | ⟨h, h'⟩
  · simpa [fnT, fnF, fnK, fnD, h] using h'
  · simpa [fnT, fnF, fnK, fnD, h] using h'
theorem fnD_le (xs : List UInt8) : (fnD xs).length ≤ xs.length := by
  unfold fnD frD0
  split <;> simp [List.length_take, List.length_drop] <;> omega

set_option maxHeartbeats 1000000 in
theorem walk_ExactFrameFrom (A : Option Addr) (n c : Nat) (xs : List UInt8) (w : World) (h : Rd w w.heap.size A n (bv xs)) (hc : n ≤ c) :
    Calls Try.prog 9 #[.slice A n c] w fun e w' => e = .returned (.bool true) ∧ Below w.heap.size w w' := by
  have HL := Lib.hid (rd_len h)
  have HR := Lib.hid h
  clear h
  by_cases hbig : 1048576 < (n : Int)
  · go_enter Try.func9, Try.ntmps9
    go_wp2
    go_ret
    exact ⟨rfl, Below.refl _ _⟩
  have hn2 : n ≤ 1048576 := by omega
  have hdl := fnD_le xs
  obtain ⟨t, ht⟩ : ∃ t, t = fnT xs := ⟨_, rfl⟩
  obtain ⟨f, hf⟩ : ∃ f, f = fnF xs := ⟨_, rfl⟩
  obtain ⟨k, hk⟩ : ∃ k, k = fnK xs := ⟨_, rfl⟩
  obtain ⟨ds, hds⟩ : ∃ ds, ds = fnD xs := ⟨_, rfl⟩
  obtain ⟨ok, hok⟩ : ∃ ok, ok = frFine xs := ⟨_, rfl⟩
  rw [← hds] at hdl
  have HDL := Lib.hid (show ds.length ≤ 1048576 by have := HL.out; omega)
  have HT : Hid (∀ {B : Nat} {w w' : World} {e : Ending}, RetFr xs B w e w' → RetF B t f k ds ok w e w') := Lib.hid (by intro h; rw [ht, hf, hk, hds, hok]; exact h.one)
  have HE : Hid ((t == t && f == f && k == k && ds == ds) = true) := Lib.hid (by simp)
  have HX : Hid ((xs == xs) = true) := Lib.hid (by simp)
  have hqq : (ok != ok) = false := by simp
  clear ht hf hk hds hok hdl
  go_enter Try.func9, Try.ntmps9
  go_wp2_with fail
  refine (toByteS_any A n c xs w HR.out (by omega)).mono ?_
  rintro e w1 ⟨A1, n1, c1, rfl, o1, b1⟩
  obtain rfl : n1 = n := (own_len o1).trans HL.out.symm
  have HB1 := Lib.hid b1
  have r1 := Rd.of_own o1
  have hc1 := (own_cap o1).1
  clear o1 b1
  go_wp2_with fail
  refine (frameFrom_spec A1 n1 c1 w1.heap.size xs w1 r1 (Nat.le_refl _) (by omega) hc1).mono ?_
  intro e w2 h2
  obtain ⟨Aw, nw, cw, rfl, ow, b2⟩ := HT.out h2
  have HNW := Lib.hid (own_len ow)
  have HB2 := Lib.hid (HB1.out.trans (b2.mono HB1.out.size))
  have HW2 := Lib.hid (Rd.of_own ow)
  clear h2 ow b2 r1 hc1 HB1
  go_wp2_with fail
  refine name_calls fun W3 hW3 => ?_
  have hb3 : Below w2.heap.size w2 W3 := by rw [hW3]; exact (Below.refl _ _).alloc (Nat.le_refl _) _
  have HB3 := Lib.hid (HB2.out.trans (hb3.mono HB2.out.size))
  have HW3 := Lib.hid ((HW2.out.below hb3).up hb3.size)
  have HV3 := Lib.hid (show Blk W3 w2.heap.size #[.int .i64 t, .int .i64 f, .int .i64 k, .slice Aw nw cw] 24 by rw [hW3]; exact box_new)
  have HBW3 := Lib.hid (show w.heap.size ≤ W3.heap.size from HB3.out.size)
  generalize w2.heap.size = gw at HV3 ⊢
  clear hW3 hb3 HW2 HB2
  refine (toByteS_any A n1 c xs W3 ((HR.out.below HB3.out).up HB3.out.size) (by omega)).mono ?_
  rintro e w4 ⟨Ax, nx, cx, rfl, ox, b4⟩
  obtain rfl : nx = n1 := (own_len ox).trans HL.out.symm
  have HB4 := Lib.hid (HB3.out.trans (b4.mono HB3.out.size))
  have HW4 := Lib.hid (HW3.out.below b4)
  have HV4 := Lib.hid (HV3.out.onS b4)
  have HX4 := Lib.hid ox
  have HS4 := Lib.hid b4.size
  have HVL := Lib.hid HV3.out.lt
  have hcx := (own_cap ox).1
  clear ox b4
  go_wp2_with fail
  refine (frameFrom_impl Ax nx cx w4.heap.size xs w4 (Rd.of_own HX4.out) (Nat.le_refl _) (by omega) hcx).mono ?_
  intro e w5 h5
  obtain ⟨Ag, ng, cg, rfl, og, b5⟩ := HT.out h5
  have HV5 := HV4.out.onS b5
  obtain ⟨k0, k1, k2, k3⟩ := cells4 HV5
  have hv5 := HV5.lt
  clear h5 hcx HV5
  go_wp2_with fail
  refine name_calls fun W6 hW6 => ?_
  have hb6 : Below w4.heap.size w4 W6 := by rw [hW6]; exact b5.alloc b5.size _
  clear k0 k1 k2 k3 hv5
  have HNG := Lib.hid (own_len og)
  have HB6 := Lib.hid (HB4.out.trans (hb6.mono HB4.out.size))
  have HW6 := Lib.hid (HW4.out.below (hb6.mono HS4.out))
  have HV6 := Lib.hid (HV4.out.onS hb6)
  have HX6 := Lib.hid (own_on HX4.out hb6)
  have HU6 := Lib.hid (show Blk W6 w5.heap.size #[.int .i64 t, .int .i64 f, .int .i64 k, .slice Ag ng cg] 24 by rw [hW6]; exact box_new)
  have HP6 := Lib.hid (show W6.ownsRow w4.heap.size 5 1 (.slice Ag ng cg) ng (bv ds) by rw [hW6]; exact og.alloc _)
  have HNE := Lib.hid (own_ne HX4.out HP6.out (Nat.le_refl _))
  have HS6 := Lib.hid (Nat.le_trans HS4.out hb6.size)
  have HSW4 := Lib.hid (show w4.heap.size ≤ W6.heap.size from hb6.size)
  have HVL4 := Lib.hid HV4.out.lt
  have HBW4 := Lib.hid (show w.heap.size ≤ w4.heap.size from HB4.out.size)
  have HSG := Lib.hid (show w4.heap.size ≤ w5.heap.size from b5.size)
  generalize w5.heap.size = gg at HU6 HSG ⊢
  obtain ⟨k0, k1, k2, k3⟩ := cells4 HV6.out
  obtain ⟨j0, j1, j2, j3⟩ := cells4 HU6.out
  clear hW6 hb6 og b5 HB4 HW4 HV4 HV3 HB3
  refine (eqFrame_any t f k t f k Ag Aw ng nw cg cw W6.heap.size ds ds W6 (Rd.of_own HP6.out) (HW6.out.up HS6.out) (Nat.le_refl _) (by have := HNG.out; have := HDL.out; omega) (by have := HNW.out; have := HDL.out; omega)).mono ?_
  rw [HE.out]
  rintro e w7 ⟨rfl, b7⟩
  have HB7 := Lib.hid (HB6.out.trans (b7.mono HB6.out.size))
  have HW7 := Lib.hid (HW6.out.below (b7.mono HS6.out))
  have HV7 := Lib.hid (HV6.out.onS b7)
  have HU7 := Lib.hid (HU6.out.onS b7)
  have HX7 := Lib.hid (own_on HX6.out b7)
  have HP7 := Lib.hid (own_on HP6.out b7)
  have HS7 := Lib.hid (Nat.le_trans HS6.out b7.size)
  have HT7 := Lib.hid (Nat.le_trans HSW4.out b7.size)
  clear k0 k1 k2 k3 j0 j1 j2 j3 b7 HB6 HW6 HV6 HU6 HX6 HP6 HS6
  go_wp2_with fail
  refine (toByteS_any A nx c xs w7 ((HR.out.below HB7.out).up HB7.out.size) (by omega)).mono ?_
  rintro e w8 ⟨A8, n8, c8, rfl, o8, b8⟩
  obtain rfl : n8 = nx := (own_len o8).trans HL.out.symm
  have HB8 := Lib.hid (HB7.out.trans (b8.mono HB7.out.size))
  have HW8 := Lib.hid (HW7.out.below (b8.mono HS7.out))
  have HV8 := Lib.hid (HV7.out.onS b8)
  have HU8 := Lib.hid (HU7.out.onS b8)
  have HX8 := Lib.hid (own_on HX7.out b8)
  have HP8 := Lib.hid (own_on HP7.out b8)
  have HS8 := Lib.hid (Nat.le_trans HS7.out b8.size)
  have HT8 := Lib.hid (Nat.le_trans HT7.out b8.size)
  have r8 := Rd.of_own o8
  clear b8 o8 HB7 HW7 HV7 HU7 HX7 HP7 HS7 HT7
  go_wp2_with fail
  refine (eqByteS_any _ _ _ _ _ _ w8.heap.size xs xs w8 (Rd.of_own HX8.out) r8 (by omega) (by omega)).mono ?_
  rw [HX.out]
  rintro e w9 ⟨rfl, b9⟩
  have HB9 := Lib.hid (HB8.out.trans (b9.mono HB8.out.size))
  have HW9 := Lib.hid (HW8.out.below (b9.mono HS8.out))
  have HV9 := Lib.hid (HV8.out.onS b9)
  have HU9 := Lib.hid (HU8.out.onS b9)
  have HX9 := Lib.hid (own_on HX8.out b9)
  have HP9 := Lib.hid (own_on HP8.out b9)
  have HS9 := Lib.hid (Nat.le_trans HS8.out b9.size)
  have HT9 := Lib.hid (Nat.le_trans HT8.out b9.size)
  clear b9 r8 HB8 HW8 HV8 HU8 HX8 HP8 HS8 HT8
  go_wp2_with fail
  refine (markByteS_any Ax n8 cx W3.heap.size 1 xs w9 HX9.out (by omega) (by omega)).mono ?_
  rintro e w10 ⟨rfl, o10, b10, g10⟩
  have hm : ¬ ((1 + n8 : Nat) : Int) < 0 := by omega
  have HB10 := Lib.hid (HB9.out.trans (b10.mono HBW3.out))
  have HW10 := Lib.hid (HW9.out.below b10)
  have HV10 := Lib.hid (HV9.out.on b10 HVL.out)
  have HU10 := Lib.hid (HU9.out.grown g10 (own_row_ne HX9.out HU9.out (by decide)))
  have HP10 := Lib.hid (HP9.out.kept g10 HNE.out)
  have HS10 := Lib.hid (Nat.le_trans HS9.out b10.size)
  have HT10 := Lib.hid (Nat.le_trans HT9.out b10.size)
  obtain ⟨k0, k1, k2, k3⟩ := cells4 HV10.out
  obtain ⟨j0, j1, j2, j3⟩ := cells4 HU10.out
  clear o10 b10 g10 HB9 HW9 HV9 HU9 HX9 HP9 HS9 HT9
  go_wp2_with fail
  refine (eqFrame_any t f k t f k Ag Aw ng nw cg cw w10.heap.size ds ds w10 (Rd.of_own HP10.out) (HW10.out.up HS10.out) (Nat.le_refl _) (by have := HNG.out; have := HDL.out; omega) (by have := HNW.out; have := HDL.out; omega)).mono ?_
  rw [HE.out]
  rintro e w11 ⟨rfl, b11⟩
  have HB11 := Lib.hid (HB10.out.trans (b11.mono HB10.out.size))
  have HW11 := Lib.hid (HW10.out.below (b11.mono HS10.out))
  have HV11 := Lib.hid (HV10.out.onS b11)
  have HU11 := Lib.hid (HU10.out.onS b11)
  have HP11 := Lib.hid (own_on HP10.out b11)
  have HS11 := Lib.hid (Nat.le_trans HS10.out b11.size)
  have HT11 := Lib.hid (Nat.le_trans HT10.out b11.size)
  clear k0 k1 k2 k3 j0 j1 j2 j3 b11 HB10 HW10 HV10 HU10 HP10 HS10 HT10
  obtain ⟨j0, j1, j2, j3⟩ := cells4 HU11.out
  go_wp2_with fail
  refine (markFrame_any t f k Ag ng cg w4.heap.size 1 ds w11 HP11.out HT11.out (by have := HNG.out; have := HDL.out; omega) (by omega)).mono ?_
  rintro e w12 ⟨rfl, o12, b12, g12⟩
  have HB12 := Lib.hid (HB11.out.trans (b12.mono HBW4.out))
  have HW12 := Lib.hid (HW11.out.below (b12.mono HS4.out))
  have HV12 := Lib.hid (HV11.out.on b12 HVL4.out)
  have HU12 := Lib.hid (HU11.out.grown g12 (own_row_ne HP11.out HU11.out (by decide)))
  have HP12 := Lib.hid o12
  have HS12 := Lib.hid (Nat.le_trans HS11.out b12.size)
  clear j0 j1 j2 j3 o12 b12 g12 HB11 HW11 HV11 HU11 HP11 HS11 HT11
  obtain ⟨j0, j1, j2, j3⟩ := cells4 HU12.out
  go_wp2_with fail
  refine (heldFrame_any t f k Ag ng cg w12.heap.size 1 w12 (Rd.of_own HP12.out) (Nat.le_refl _) (by have := HNG.out; have := HDL.out; omega) (by omega)).mono ?_
  rintro e w13 ⟨rfl, b13⟩
  have hm2 : ¬ ((1 + ng : Nat) : Int) < 0 := by omega
  have hq : (((1 + ng : Nat) : Int) != ((1 + ng : Nat) : Int)) = false := by simp
  have HB13 := Lib.hid (HB12.out.trans (b13.mono HB12.out.size))
  have HW13 := Lib.hid (HW12.out.below (b13.mono HS12.out))
  have HV13 := Lib.hid (HV12.out.onS b13)
  have HU13 := Lib.hid (HU12.out.onS b13)
  have HP13 := Lib.hid (own_on HP12.out b13)
  have HS13 := Lib.hid (Nat.le_trans HS12.out b13.size)
  clear j0 j1 j2 j3 b13 HB12 HW12 HV12 HU12 HP12 HS12
  go_wp2_with fail
  refine (toByteS_any A n8 c xs w13 ((HR.out.below HB13.out).up HB13.out.size) (by omega)).mono ?_
  rintro e w14 ⟨A14, n14, c14, rfl, o14, b14⟩
  obtain rfl : n14 = n8 := (own_len o14).trans HL.out.symm
  have HB14 := Lib.hid (HB13.out.trans (b14.mono HB13.out.size))
  have HW14 := Lib.hid (HW13.out.below (b14.mono HS13.out))
  have HV14 := Lib.hid (HV13.out.onS b14)
  have HU14 := Lib.hid (HU13.out.onS b14)
  have HP14 := Lib.hid (own_on HP13.out b14)
  have HS14 := Lib.hid (Nat.le_trans HS13.out b14.size)
  have r14 := Rd.of_own o14
  have hc14 := (own_cap o14).1
  clear b14 o14 HB13 HW13 HV13 HU13 HP13 HS13
  go_wp2_with fail
  refine (frameFrom_impl A14 n14 c14 w14.heap.size xs w14 r14 (Nat.le_refl _) (by omega) hc14).mono ?_
  intro e w15 h15
  obtain ⟨Ah, nh, ch, rfl, oh, b15⟩ := HT.out h15
  have HV15 := HV14.out.onS b15
  obtain ⟨k0, k1, k2, k3⟩ := cells4 HV15
  have hv15 := HV15.lt
  clear h15 r14 hc14 HV15
  go_wp2_with fail
  refine name_calls fun W16 hW16 => ?_
  have hb16 : Below w14.heap.size w14 W16 := by rw [hW16]; exact b15.alloc b15.size _
  clear k0 k1 k2 k3 hv15
  have HNH := Lib.hid (own_len oh)
  have HB16 := Lib.hid (HB14.out.trans (hb16.mono HB14.out.size))
  have HW16 := Lib.hid (HW14.out.below (hb16.mono HS14.out))
  have HV16 := Lib.hid (HV14.out.onS hb16)
  have HU16 := Lib.hid (HU14.out.onS hb16)
  have HP16 := Lib.hid (own_on HP14.out hb16)
  have HS16 := Lib.hid (Nat.le_trans HS14.out hb16.size)
  have HH16 := Lib.hid (show Blk W16 w15.heap.size #[.int .i64 t, .int .i64 f, .int .i64 k, .slice Ah nh ch] 24 by rw [hW16]; exact box_new)
  have r16 : Rd W16 W16.heap.size Ah nh (bv ds) := by rw [hW16]; exact Rd.of_own (oh.alloc _)
  generalize w15.heap.size = gh at HH16 ⊢
  obtain ⟨k0, k1, k2, k3⟩ := cells4 HV16.out
  obtain ⟨j0, j1, j2, j3⟩ := cells4 HH16.out
  clear hW16 hb16 oh b15 HB14 HW14 HV14 HU14 HP14 HS14
  refine (eqFrame_any t f k t f k Ah Aw nh nw ch cw W16.heap.size ds ds W16 r16 (HW16.out.up HS16.out) (Nat.le_refl _) (by have := HNH.out; have := HDL.out; omega) (by have := HNW.out; have := HDL.out; omega)).mono ?_
  rw [HE.out]
  rintro e w17 ⟨rfl, b17⟩
  have HB17 := Lib.hid (HB16.out.trans (b17.mono HB16.out.size))
  have HU17 := Lib.hid (HU16.out.onS b17)
  have HP17 := Lib.hid (own_on HP16.out b17)
  clear k0 k1 k2 k3 j0 j1 j2 j3 b17 r16 HB16 HW16 HV16 HU16 HP16 HS16
  obtain ⟨j0, j1, j2, j3⟩ := cells4 HU17.out
  go_wp2_with fail
  refine (heldFrame_any t f k Ag ng cg w17.heap.size 1 w17 (Rd.of_own HP17.out) (Nat.le_refl _) (by have := HNG.out; have := HDL.out; omega) (by omega)).mono ?_
  rintro e w18 ⟨rfl, b18⟩
  clear j0 j1 j2 j3
  go_wp2
  go_ret
  exact ⟨rfl, HB17.out.trans (b18.mono HB17.out.size)⟩
end Go.Proofs.Ytpompkogpdnlcaa
