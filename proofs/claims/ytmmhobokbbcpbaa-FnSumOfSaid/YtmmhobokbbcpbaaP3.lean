import Derived.Test.YtmmhobokbbcpbaaP1
import Derived.Test.YtmmhobokbbcpbaaMath3
import Derived.Deep.RegionHeld3
import Derived.Deep.DrawnRows
namespace Go.Proofs.Ytmmhobokbbcpbaa
open Go.ChangeShapes Go.WideShapes Go.ChangeAt Go.RowKit
attribute [local go_sem ↓] Go.wp_at_zero Go.wp_at_succ

set_option maxHeartbeats 400000 in
theorem drawSumOf_any (A : Option Addr) (n c : Nat) (xs : List UInt8) (w : World) (h : Rd w w.heap.size A n (bv xs)) (hc : n ≤ c) :
    Calls Try.prog 21 #[.slice A n c] w fun e w' => ∃ A' m c' ys, e = .returned (.slice A' m c') ∧ w'.ownsRow w.heap.size 5 1 (.slice A' m c') m (bv ys) ∧ m ≤ 19 ∧ Below w.heap.size w w' := by
  go_enter Try.func21, Try.ntmps21
  go_wp2_with fail
  refine (open_any A n c xs _ h hc).mono ?_
  rintro e w1 ⟨rfl, R1, b1⟩
  go_wp2_with fail
  refine (pick_any _ _ _ 20 _ R1 (by omega)).mono ?_
  rintro e w2 ⟨r, rfl, r1, r2, -, R2, g2⟩
  have b2 := below_pick b1 g2 (Nat.le_refl _) b1.size
  have r2' := r2 (by omega)
  clear r2
  obtain ⟨m, rfl⟩ := Int.eq_ofNat_of_zero_le r1
  go_wp2_with fail
  refine (bytes_any _ _ _ m _ R2 (by omega) (by omega)).mono ?_
  rintro e w3 ⟨A3, c3, ys, p3, rfl, o3, R3, hp3, g3⟩
  have b3 := below_pick b2 g3 (Nat.le_refl _) b2.size
  have o3' := own_base o3 b2.size
  have hm : m < 20 := by omega
  clear g3 g2 R2 R1 o3 b2 b1 h
  go_wp2_with fail
  go_loopw [5] (fun i wr => ∃ k zs p, k ≤ m ∧ i = .int .i64 ((k : Nat) : Int) ∧ wr.ownsRow w.heap.size 5 1 (.slice A3 m c3) m (bv zs) ∧ Rdr wr w.heap.size w.heap.size p ∧ p ≤ p3 + 2 * k ∧ Below w.heap.size w wr) (fun i _ => m - (intOf i).toNat)
  case atStart => exact ⟨0, ys, p3, Nat.zero_le _, rfl, o3', R3, by omega, b3⟩
  case round =>
    obtain ⟨k, zs, p, hk, rfl, ho, hR, hp, hb⟩ := hrel
    clear o3' R3 b3
    by_cases hlt : k < m
    · go_wp2_with fail
      refine (pick_any _ _ _ 3 _ hR (by omega)).mono ?_
      rintro e w4 ⟨s, rfl, s1, s2, -, R4, g4⟩
      have o4 := own_pick ho hR g4
      have b4 := below_pick hb g4 (Nat.le_refl _) hb.size
      clear s2 ho hb hR
      by_cases h0 : s = 0
      · have t0 : (s == 0) = true := by simp [h0]
        clear h0
        have oL := own_lit w4 w4.heap.size 2 [0, 255] #[.int .u8 0, .int .u8 255] rfl rfl (by omega) (Nat.le_refl _) rfl
        have o4' := o4.alloc (.cells #[.int .u8 0, .int .u8 255] 5)
        have R4' := R4.alloc (.cells #[.int .u8 0, .int .u8 255] 5)
        have b4' := b4.alloc b4.size (.cells #[.int .u8 0, .int .u8 255] 5)
        go_wp2_with fail
        refine (pick_any _ _ _ 2 _ R4' (by omega)).mono ?_
        rintro e w5 ⟨q, rfl, q1, q2, -, R5, g5⟩
        have q2' := q2 (by omega)
        have o5 := own_pick o4' R4' g5
        have oL5 := own_pick oL R4' g5
        have b5 := below_pick b4' g5 (Nat.le_refl _) b4'.size
        obtain ⟨j, rfl⟩ := Int.eq_ofNat_of_zero_le q1
        obtain ⟨gb, rfl, hgb, hgl⟩ := own_some o5 (by omega)
        have hcl := oL5.cellAt j (by omega)
        obtain ⟨y, hy⟩ : ∃ y : UInt8, (bv [0, 255])[j]? = some (.int .u8 (y.toNat : Int)) := by
          rcases (show j = 0 ∨ j = 1 by omega) with rfl | rfl
          · exact ⟨0, rfl⟩
          · exact ⟨255, rfl⟩
        rw [hy] at hcl
        have hf : w5.frozen? ⟨gb, k, none⟩ = false := o5.frozenAt k
        obtain ⟨u', hu'⟩ : ∃ u', w5.cell? ⟨gb, k, none⟩ = some u' := by
          rw [o5.cellAt k (by omega)]
          refine ⟨_, List.getElem?_eq_getElem ?_⟩
          have := o5.1
          omega
        have hs := (o5.stored k (.int .u8 (y.toNat : Int))).1
        have hset : (bv zs).set k (.int .u8 (y.toNat : Int)) = bv (zs.set k y) := by simp [bv, bval, List.map_set]
        rw [hset] at hs
        have HS := Lib.hid hs
        have R6 : Hid (Rdr (w5.setCell ⟨gb, k, none⟩ (.int .u8 (y.toNat : Int))) w.heap.size w.heap.size (p + 1 + 1)) := Lib.hid (R5.kept (o5.stored k (.int .u8 (y.toNat : Int))).2 (fun e => own_rdr_ne o5 R5 (by simpa [Value.ownBlock] using e)) (fun i hi => by injection hi with hi; omega))
        have b6 := b5.setCell (p := ⟨gb, k, none⟩) hgb (.int .u8 (y.toNat : Int))
        clear o4 R4 b4 oL o4' R4' b4' R5 g5 q2 o5 oL5 b5 hs hset hy g4
        go_wp2
        go_roundw
        case rel => exact ⟨k + 1, zs.set k y, p + 1 + 1, by omega, by go_num, HS.out, R6.out, by omega, b6⟩
        case measure => simp [intOf] <;> omega
      · have t0 : (s == 0) = false := by simp; omega
        clear h0
        go_wp2
        go_roundw
        case rel => exact ⟨k + 1, zs, p + 1, by omega, by go_num, o4, R4, by omega, b4⟩
        case measure => simp [intOf] <;> omega
    · go_wp2
      go_ret
      exact ⟨A3, m, c3, zs, rfl, ho, by omega, hb⟩

theorem xor_u8 (x : UInt8) : bits .xor .u8 (x.toNat : Int) 16 = ((x ^^^ 16).toNat : Int) := by
  have : ∀ x : Fin 256, bits .xor .u8 (x.val : Int) 16 = (((UInt8.ofNat x.val) ^^^ 16).toNat : Int) := by decide +kernel
  have h := this ⟨x.toNat, x.toNat_lt⟩
  simpa using h

set_option maxHeartbeats 800000 in
theorem walk_SumOf (A : Option Addr) (n c : Nat) (xs : List UInt8) (w : World) (h : Rd w w.heap.size A n (bv xs)) (hc : n ≤ c) :
    Calls Try.prog 5 #[.slice A n c] w fun e w' => e = .returned (.bool true) ∧ Below w.heap.size w w' := by
  by_cases hbig : 1048576 < n
  · go_enter Try.func5, Try.ntmps5
    go_wp2
    go_ret
    exact ⟨rfl, Below.refl _ _⟩
  have d0 : decide ((1048576 : Int) < (n : Int)) = false := by simp; omega
  go_enter Try.func5, Try.ntmps5
  go_wp2_with fail
  refine (drawSumOf_any A n c xs _ h hc).mono ?_
  rintro e w1 ⟨A1, m, c1, ys, rfl, o1, hm, b1⟩
  clear h
  have r1 := Rd.of_own o1
  have hml := Lib.hid (own_len o1)
  have hcap := own_cap o1
  have hsb := sumOf_bd ys
  obtain ⟨u, hu⟩ : ∃ u, u = sumOf ys := ⟨_, rfl⟩
  rw [← hu] at hsb
  have HU := Lib.hid hu
  clear hu o1
  obtain ⟨hsb1, hsb2⟩ := hsb
  have t0 : (u != u) = false := by simp
  have d1 : decide (u < 0) = false := by simp; omega
  have d2 : decide (65535 < u) = false := by simp; omega
  go_wp2_with fail
  refine (sumOf_impl _ _ _ _ ys _ r1 (by omega)).mono ?_
  rw [← HU.out]
  rintro e w1' ⟨rfl, rfl⟩
  go_wp2_with fail
  refine (sumOf_spec _ _ _ _ ys _ r1 (by omega)).mono ?_
  rw [← HU.out]
  rintro e w1' ⟨rfl, rfl⟩
  have s1 := b1.size
  go_wp2_with fail
  go_loopw [5, 6] (fun i _ wr => ∃ k : Nat, k ≤ m ∧ i = .int .i64 (k : Int) ∧ Below w1.heap.size w1 wr) (fun i _ _ => m - (intOf i).toNat)
  case atStart => exact ⟨0, Nat.zero_le _, rfl, Below.refl _ _⟩
  case round =>
    obtain ⟨k, hk, rfl, hb⟩ := hrel
    have rr := (r1.below hb).up hb.size
    by_cases hlt : k < m
    · obtain ⟨_, _, x, -, -, hx, -⟩ := rr.byte hlt
      have hxor := xor_u8 x
      have hne : ((sumOf (ys.set k (x ^^^ 16)) % 65535 == u % 65535) = false) := by
        have := sumOf_turn ys k (by have := hml.out; omega)
        have e : ys.getD k 0 = x := by simp [List.getD, hx]
        rw [e, ← HU.out] at this
        simpa using this
      have hsb3 := sumOf_bd (ys.set k (x ^^^ 16))
      obtain ⟨v, hv⟩ : ∃ v, v = sumOf (ys.set k (x ^^^ 16)) := ⟨_, rfl⟩
      rw [← hv] at hne hsb3
      have HV := Lib.hid hv
      obtain ⟨hv1, hv2⟩ := hsb3
      have HX := Lib.hid hx
      clear hv hx
      go_wp2_with (at_builtin; refine app_new rfl _ _ rfl rfl rfl rfl rr (by omega) (Nat.le_refl _) ?_; intro A2 c2 w2 o2 b2; obtain ⟨gb, rfl, hgb, hgl⟩ := own_some o2 (by omega); obtain ⟨hcl, hf, hs⟩ := own_byte o2 HX.out; have HS := Lib.hid (hs (x ^^^ 16)); clear hs o2)
      have b3 := b2.setCell (p := ⟨gb, k, none⟩) hgb (.int .u8 ((x ^^^ 16).toNat : Int))
      have bb3 := hb.trans (b3.mono hb.size)
      refine (sumOf_impl _ _ _ _ (ys.set k (x ^^^ 16)) _ (Rd.of_own HS.out.1) (by omega)).mono ?_
      rw [← HV.out]
      rintro e w4 ⟨rfl, rfl⟩
      clear HX HS
      go_wp2
      go_roundw
      case rel =>
        exact ⟨k + 1, by omega, by go_num, by simpa using bb3⟩
      case measure => simp [intOf] <;> omega
    · have bb := b1.trans (hb.mono s1)
      by_cases h4 : m < 4
      · go_wp2_with fail
        refine (alive_any _).mono ?_
        rintro e w5 ⟨rfl, b5⟩
        go_wp2
        go_ret
        exact ⟨rfl, bb.trans (b5.mono bb.size)⟩
      · obtain ⟨x0, x1, x2, x3, r, rfl⟩ : ∃ x0 x1 x2 x3 r, ys = x0 :: x1 :: x2 :: x3 :: r := by
          rcases ys with _ | ⟨x0, _ | ⟨x1, _ | ⟨x2, _ | ⟨x3, r⟩⟩⟩⟩
          · exact absurd hml.out (by simp; omega)
          · exact absurd hml.out (by simp; omega)
          · exact absurd hml.out (by simp; omega)
          · exact absurd hml.out (by simp; omega)
          · exact ⟨x0, x1, x2, x3, r, rfl⟩
        obtain ⟨b, off, rfl, hbB, hcell⟩ := rr.cells (by omega)
        have k0 : wr.cell? ⟨b, off, none⟩ = some (.int .u8 (x0.toNat : Int)) := hcell 0 _ rfl
        have k1 : wr.cell? ⟨b, off + 1, none⟩ = some (.int .u8 (x1.toNat : Int)) := hcell 1 _ rfl
        have k2 : wr.cell? ⟨b, off + 2, none⟩ = some (.int .u8 (x2.toNat : Int)) := hcell 2 _ rfl
        have k3 : wr.cell? ⟨b, off + 3, none⟩ = some (.int .u8 (x3.toNat : Int)) := hcell 3 _ rfl
        have hsw := sumOf_swap x0 x1 x2 x3 r
        rw [← HU.out] at hsw
        have HSW := Lib.hid hsw
        have d4 : decide ((m : Int) < 4) = false := by simp; omega
        have j1 : (4 : Int) ≤ (m : Int) := by omega
        have j2 : (3 : Int) < (m : Int) := by omega
        have j3 : (2 : Int) < (m : Int) := by omega
        have j4 : (1 : Int) < (m : Int) := by omega
        have j5 : (0 : Int) < (m : Int) := by omega
        have j7 : 0 < m := by omega
        have j6 : (m : Int) ≤ (c1 : Int) := by omega
        have rr4 := rd_cut rr (lo := 4) (k := m - 4) (by omega)
        clear hcell hsw hml r1
        have hr4' : ((x0 :: x1 :: x2 :: x3 :: r).drop 4).take (m - 4) = r := by
          show List.take (m - 4) r = r
          exact List.take_of_length_le (by have := rd_len rr; simp at this; omega)
        rw [hr4'] at rr4
        have oW : ((wr.alloc (.cells #[.int .u8 (x2.toNat : Int), .int .u8 (x3.toNat : Int), .int .u8 (x0.toNat : Int), .int .u8 (x1.toNat : Int)] 5)).drew).ownsRow wr.heap.size 5 1 (.slice (some ⟨wr.heap.size, 0, none⟩) 4 4) 4 (bv [x2, x3, x0, x1]) := own_lit wr wr.heap.size 4 [x2, x3, x0, x1] _ rfl rfl (by omega) (Nat.le_refl _) rfl
        have bW : Below wr.heap.size wr ((wr.alloc (.cells #[.int .u8 (x2.toNat : Int), .int .u8 (x3.toNat : Int), .int .u8 (x0.toNat : Int), .int .u8 (x1.toNat : Int)] 5)).drew) := ((Below.refl _ _).alloc (Nat.le_refl _) _).drew
        have rW := rr4.below bW
        clear hr4' rr4
        by_cases hc4 : c1 = 4
        · subst hc4
          have hm4 : m = 4 := by omega
          subst hm4
          have hr0 : r = [] := List.eq_nil_of_length_eq_zero (by have := rd_len rr; simp only [List.length_cons] at this; omega)
          subst hr0
          have rW0 : Rd ((wr.alloc (.cells #[.int .u8 (x2.toNat : Int), .int .u8 (x3.toNat : Int), .int .u8 (x0.toNat : Int), .int .u8 (x1.toNat : Int)] 5)).drew) wr.heap.size (some ⟨b, off, none⟩) 0 (bv []) := ⟨rfl, fun h => absurd h (by omega)⟩
          have hk4 : k = 4 := by omega
          subst hk4
          go_wp2_with fail
          go_region_held3 (fun w' => w'.cell? ⟨b, off, none⟩ = some (.int .u8 (x0.toNat : Int)) ∧ w'.cell? ⟨b, off + 1, none⟩ = some (.int .u8 (x1.toNat : Int)) ∧ w'.cell? ⟨b, off + 2, none⟩ = some (.int .u8 (x2.toNat : Int)) ∧ w'.cell? ⟨b, off + 3, none⟩ = some (.int .u8 (x3.toNat : Int))) (first | go_keep | exact ⟨(b2.cell (p := ⟨b, off, none⟩) hbB).trans k0, (b2.cell (p := ⟨b, off + 1, none⟩) hbB).trans k1, (b2.cell (p := ⟨b, off + 2, none⟩) hbB).trans k2, (b2.cell (p := ⟨b, off + 3, none⟩) hbB).trans k3⟩) ((refine step_app (by rfl) _ _ (by rfl) oW bW (by rfl) (by rfl) rW0 (by omega) (Nat.le_refl _) (by simp) ?_; intro A2 c2 w2 o2 b2))
          have o2' : w2.ownsRow wr.heap.size 5 1 (.slice A2 (4 + 0) c2) (4 + 0) (bv (x2 :: x3 :: x0 :: x1 :: [])) := o2
          have bb2 := bb.trans (b2.mono bb.size)
          have tu : (u == u) = true := by simp
          clear o2 oW bW rW
          go_wp2_with fail
          refine (sumOf_impl _ _ _ _ (x2 :: x3 :: x0 :: x1 :: []) _ (Rd.of_own o2') (by omega)).mono ?_
          rw [HSW.out]
          rintro e w2' ⟨rfl, rfl⟩
          go_wp2_with fail
          refine (alive_any _).mono ?_
          rintro e w5 ⟨rfl, b5⟩
          go_wp2
          go_ret
          exact ⟨rfl, bb2.trans (b5.mono bb2.size)⟩
        · go_wp2_with fail
          go_region_held3 (fun w' => w'.cell? ⟨b, off, none⟩ = some (.int .u8 (x0.toNat : Int)) ∧ w'.cell? ⟨b, off + 1, none⟩ = some (.int .u8 (x1.toNat : Int)) ∧ w'.cell? ⟨b, off + 2, none⟩ = some (.int .u8 (x2.toNat : Int)) ∧ w'.cell? ⟨b, off + 3, none⟩ = some (.int .u8 (x3.toNat : Int))) (first | go_keep | exact ⟨(b2.cell (p := ⟨b, off, none⟩) hbB).trans k0, (b2.cell (p := ⟨b, off + 1, none⟩) hbB).trans k1, (b2.cell (p := ⟨b, off + 2, none⟩) hbB).trans k2, (b2.cell (p := ⟨b, off + 3, none⟩) hbB).trans k3⟩) ((refine step_app (by rfl) _ _ (by rfl) oW bW (by rfl) (by rfl) rW (by omega) (Nat.le_refl _) (by simp) ?_; intro A2 c2 w2 o2 b2))
          have o2' : w2.ownsRow wr.heap.size 5 1 (.slice A2 (4 + (m - 4)) c2) (4 + (m - 4)) (bv (x2 :: x3 :: x0 :: x1 :: r)) := o2
          have bb2 := bb.trans (b2.mono bb.size)
          have tu : (u == u) = true := by simp
          clear o2 oW bW rW
          go_wp2_with fail
          refine (sumOf_impl _ _ _ _ (x2 :: x3 :: x0 :: x1 :: r) _ (Rd.of_own o2') (by omega)).mono ?_
          rw [HSW.out]
          rintro e w2' ⟨rfl, rfl⟩
          go_wp2_with fail
          refine (alive_any _).mono ?_
          rintro e w5 ⟨rfl, b5⟩
          go_wp2
          go_ret
          exact ⟨rfl, bb2.trans (b5.mono bb2.size)⟩
end Go.Proofs.Ytmmhobokbbcpbaa
