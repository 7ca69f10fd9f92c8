import Derived.Test.YtmmhobokbbcpbaaP1
import Derived.Test.YtmmhobokbbcpbaaMath3
namespace Go.Proofs.Ytmmhobokbbcpbaa
open Go.ChangeShapes Go.WideShapes Go.ChangeAt Go.RowKit

theorem drawSumTurned_any (A : Option Addr) (n c : Nat) (xs : List UInt8) (w : World) (h : Rd w w.heap.size A n (bv xs)) (hc : n ≤ c) :
    Calls Try.prog 27 #[.slice A n c] w fun e w' => ∃ s o v : Int, e = .returned (.tuple #[.int .i64 s, .int .i64 o, .int .i64 v]) ∧ Below w.heap.size w w' := by
  go_enter Try.func27, Try.ntmps27
  go_wp2_with fail
  refine (open_any A n c xs _ h hc).mono ?_
  rintro e w1 ⟨rfl, R1, b1⟩
  go_wp2_with fail
  refine (word_any _ _ _ _ R1 (by omega)).mono ?_
  rintro e w2 ⟨s, p2, rfl, s1, s2, hp2, R2, g2⟩
  have b2 := below_pick b1 g2 (Nat.le_refl _) b1.size
  go_wp2_with fail
  refine (pick_any _ _ _ 20 _ R2 (by omega)).mono ?_
  rintro e w3 ⟨r, rfl, r1, r2, -, R3, g3⟩
  have r2' := r2 (by omega)
  clear r2
  have b3 := below_pick b2 g3 (Nat.le_refl _) b2.size
  go_wp2_with fail
  refine (word_any _ _ _ _ R3 (by omega)).mono ?_
  rintro e w4 ⟨o, p4, rfl, o1, o2, hp4, R4, g4⟩
  have b4 := below_pick b3 g4 (Nat.le_refl _) b3.size
  go_wp2_with fail
  refine (word_any _ _ _ _ R4 (by omega)).mono ?_
  rintro e w5 ⟨v, p5, rfl, v1, v2, hp5, R5, g5⟩
  have b5 := below_pick b4 g5 (Nat.le_refl _) b4.size
  go_wp2_with fail
  refine (pick_any _ _ _ 20 _ R5 (by omega)).mono ?_
  rintro e w6 ⟨k, rfl, k1, k2, -, R6, g6⟩
  have k2' := k2 (by omega)
  clear k2
  have b6 := below_pick b5 g6 (Nat.le_refl _) b5.size
  go_wp2
  go_ret3
  exact ⟨_, _, _, rfl, b6⟩

theorem sTurn_turn3 {s o n : Int} (hs : inB s 0 65535 = true) (ho : inB o 0 65535 = true) (hn : inB n 0 65535 = true) : sTurn s o n = turn3 s o n := by
  simp [sTurn, turn3, hs, ho, hn]

set_option maxHeartbeats 400000 in
theorem walk_SumTurned (A : Option Addr) (n c : Nat) (xs : List UInt8) (w : World) (h : Rd w w.heap.size A n (bv xs)) (hc : n ≤ c) :
    Calls Try.prog 7 #[.slice A n c] w fun e w' => e = .returned (.bool true) ∧ Below w.heap.size w w' := by
  by_cases hbig : 1048576 < n
  · go_enter Try.func7, Try.ntmps7
    go_wp2
    go_ret
    exact ⟨rfl, Below.refl _ _⟩
  go_enter Try.func7, Try.ntmps7
  go_wp2_with fail
  refine (drawSumTurned_any A n c xs _ h hc).mono ?_
  rintro e w1 ⟨s, o, v, rfl, b1⟩
  clear h
  have t0 : (sTurn s o v != sTurn s o v) = false := by simp
  go_wp2_with fail
  refine (sumTurned_impl _ _ _ _).mono ?_
  rintro e w1' ⟨rfl, rfl⟩
  go_wp2_with fail
  refine (sumTurned_spec _ _ _ _).mono ?_
  rintro e w1' ⟨rfl, rfl⟩
  by_cases hv : inB s 0 65535 = true ∧ inB o 0 65535 = true ∧ inB v 0 65535 = true
  · obtain ⟨h1, h2, h3⟩ := hv
    have e1 := sTurn_turn3 h1 h2 h3
    have s1 := inB_iff.1 h1
    have o1 := inB_iff.1 h2
    have v1 := inB_iff.1 h3
    have bd := turn3_bd s1 o1 v1
    have hb := turn3_back s o v
    have hf := turn_fits [3, 77, 200, 5] rfl o v o1 v1
    obtain ⟨fo, hfo⟩ : ∃ fo, fo = [3, 77, 200, 5] ++ bytesOf o 2 := ⟨_, rfl⟩
    obtain ⟨fv, hfv⟩ : ∃ fv, fv = [3, 77, 200, 5] ++ bytesOf v 2 := ⟨_, rfl⟩
    obtain ⟨t, ht⟩ : ∃ t, t = turn3 s o v := ⟨_, rfl⟩
    have lo := bytesOf_len o 2
    have lv := bytesOf_len v 2
    rw [← hfo, ← hfv] at hf
    rw [← ht] at hb bd e1
    have FO := Lib.hid hfo
    have FV := Lib.hid hfv
    have E1 := Lib.hid e1
    have HB := Lib.hid hb
    have HF := Lib.hid hf
    have HT := Lib.hid ht
    rw [e1] at t0 ⊢
    clear hfo hfv e1 hb hf ht
    have hneg : ¬ t < 0 := by omega
    obtain ⟨bo, hbo⟩ : ∃ bo, bo = bytesOf o 2 := ⟨_, rfl⟩
    obtain ⟨bw, hbw⟩ : ∃ bw, bw = bytesOf v 2 := ⟨_, rfl⟩
    rw [← hbo] at lo
    rw [← hbw] at lv
    have cO : ∀ w, Calls Try.prog 14 #[.int .i64 o, .int .i64 2] w (RetB w.heap.size bo w) := by
      intro w; rw [hbo]; exact bytesOf_impl o 2 w (by omega)
    have cV : ∀ w, Calls Try.prog 14 #[.int .i64 v, .int .i64 2] w (RetB w.heap.size bw w) := by
      intro w; rw [hbw]; exact bytesOf_impl v 2 w (by omega)
    have CO := Lib.hid cO
    have CV := Lib.hid cV
    have HBO := Lib.hid hbo
    have HBW := Lib.hid hbw
    clear cO cV hbo hbw
    have hsz1 := b1.size
    have oF := own_lit w1 w1.heap.size 4 [3, 77, 200, 5] #[.int .u8 3, .int .u8 77, .int .u8 200, .int .u8 5] rfl rfl (by omega) (Nat.le_refl _) rfl
    obtain ⟨wf, hwf⟩ : ∃ wf, wf = w1.alloc (.cells #[.int .u8 3, .int .u8 77, .int .u8 200, .int .u8 5] 5) := ⟨_, rfl⟩
    have hsf : wf.heap.size = w1.heap.size + 1 := by rw [hwf]; simp
    have rF : Rd wf wf.heap.size (some ⟨w1.heap.size, 0, none⟩) 4 (bv [3, 77, 200, 5]) := by rw [hwf]; exact Rd.of_own oF
    have bF : Below w.heap.size w wf := by rw [hwf]; exact b1.alloc hsz1 _
    have hbF := bF.size
    have WF := Lib.hid hwf
    have SF := Lib.hid hsf
    clear oF hwf hsf
    go_wp2_with (at_builtin; rw [← WF.out]; refine app_on rfl _ _ rfl (own_lit _ wf.heap.size 0 [] _ rfl rfl (by omega) (Nat.le_refl _) (by exact SF.out.symm)) (W0 := wf) ((Below.refl wf.heap.size wf).alloc (Nat.le_refl _) _) rfl rfl (rF.below ((Below.refl _ _).alloc (Nat.le_refl _) _)) (by omega) (Nat.le_refl _) (by simp) ?_; intro A2 c2 w2 o2 b2)
    have bb2 := bF.trans (b2.mono bF.size)
    refine (CO.out _).mono ?_
    rintro e w3 ⟨A3, n3, c3, rfl, o3, b3⟩
    have l3 : n3 ≤ 4 := by have := own_len o3; omega
    have bw3 := b2.trans (b3.mono b2.size)
    have o23 := own_below o2 b3 (Nat.le_refl _)
    have r3 := Rd.of_own o3
    have s3 := bw3.size
    go_wp2_with (at_builtin; first | (refine app_on rfl _ _ rfl o23 (W0 := wf) bw3 rfl rfl r3 (by omega) (Nat.le_refl _) s3 ?_; intro A4 c4 w4 o4 b4; clear o23 bw3) | (refine app_on rfl _ _ rfl (own_lit w4 w4.heap.size 0 [] _ rfl rfl (by omega) (Nat.le_refl _) rfl) (W0 := w4) ((Below.refl w4.heap.size w4).alloc (Nat.le_refl _) _) rfl rfl (((rF.below b4).up b4.size).below ((Below.refl _ _).alloc (Nat.le_refl _) _)) (by omega) (Nat.le_refl _) (by simp) ?_; intro A5 c5 w5 o5 b5))
    have bb4 := bF.trans (b4.mono bF.size)
    have bb5 := bb4.trans (b5.mono bb4.size)
    have s5 := b5.size
    have s4 := b4.size
    refine (CV.out _).mono ?_
    rintro e w6 ⟨A6, n6, c6, rfl, o6, b6⟩
    have l6 : n6 ≤ 4 := by have := own_len o6; omega
    have bb6 := bb5.trans (b6.mono bb5.size)
    have bw6 := b5.trans (b6.mono b5.size)
    have o56 := own_below o5 b6 (Nat.le_refl _)
    have r6 := Rd.of_own o6
    have s6 := bw6.size
    clear o2 o3 o5 o6
    go_wp2_with (at_builtin; refine app_on rfl _ _ rfl o56 (W0 := w4) bw6 rfl rfl r6 (by omega) (Nat.le_refl _) s6 ?_; intro A7 c7 w7 o7 b7; clear o56)
    have bb7 := bb4.trans (b7.mono bb4.size)
    have o47 := own_below o4 b7 (Nat.le_refl _)
    have hWas : ([] ++ [3, 77, 200, 5]) ++ bo = fo := by rw [FO.out, ← HBO.out]; rfl
    have hIs : ([] ++ [3, 77, 200, 5]) ++ bw = fv := by rw [FV.out, ← HBW.out]; rfl
    rw [hWas] at o47
    rw [hIs] at o7
    have rW := Rd.of_own o47
    have rI := Rd.of_own o7
    have sb := sumOf_bd fo
    have q1 : inB (sumOf fo) 0 65535 = true := inB_iff.2 sb
    have e2 : sTurn (sumOf fo) o v = turn3 (sumOf fo) o v := sTurn_turn3 q1 h2 h3
    have bd2 := turn3_bd sb o1 v1
    have hfit : fits fv (sTurn (sumOf fo) o v) = true := by
      rw [e2]
      unfold fits
      rw [decide_eq_true_iff]
      exact ⟨bd2.1, bd2.2, HF.out⟩
    have q2 : inB t 0 65535 = true := inB_iff.2 bd
    have e3 : sTurn t v o = turn3 t v o := sTurn_turn3 q2 h3 h2
    have hback : ((sTurn t v o) % 65535 == s % 65535) = true := by
      rw [e3, beq_iff_eq]
      exact HB.out
    have bd3 := turn3_bd bd v1 o1
    rw [← e3] at bd3
    obtain ⟨y, hy⟩ : ∃ y, y = sTurn t v o := ⟨_, rfl⟩
    rw [← hy] at hback bd3
    have HY := Lib.hid hy
    obtain ⟨z, hz⟩ : ∃ z, z = sTurn (sumOf fo) o v := ⟨_, rfl⟩
    rw [← hz] at hfit
    have HZ := Lib.hid hz
    have HFIT := Lib.hid hfit
    clear hWas hIs o47 o7 sb q1 e2 e3 hy hz hfit o4
    refine (sumOf_impl _ _ _ _ fo _ rW (by omega)).mono ?_
    rintro e w7' ⟨rfl, rfl⟩
    go_wp2_with fail
    refine (sumTurned_impl _ _ _ _).mono ?_
    rw [← HZ.out]
    rintro e w7' ⟨rfl, rfl⟩
    go_wp2_with fail
    refine (sumFits_impl _ _ _ _ fv _ _ rI (by omega)).mono ?_
    rw [HFIT.out]
    rintro e w7' ⟨rfl, rfl⟩
    go_wp2_with fail
    refine (sumTurned_impl _ _ _ _).mono ?_
    rw [← HY.out]
    rintro e w7' ⟨rfl, rfl⟩
    go_wp2_with fail
    refine (alive_any _).mono ?_
    rintro e w8 ⟨rfl, b8⟩
    go_wp2
    go_ret
    exact ⟨rfl, bb7.trans (b8.mono bb7.size)⟩
  · have e1 : sTurn s o v = -1 := by
      simp only [sTurn]
      rw [if_neg]
      simpa [Bool.and_eq_true, and_assoc] using hv
    rw [e1]
    go_wp2_with fail
    refine (alive_any _).mono ?_
    rintro e w4 ⟨rfl, b4⟩
    go_wp2
    go_ret
    exact ⟨rfl, b1.trans (b4.mono b1.size)⟩
end Go.Proofs.Ytmmhobokbbcpbaa
