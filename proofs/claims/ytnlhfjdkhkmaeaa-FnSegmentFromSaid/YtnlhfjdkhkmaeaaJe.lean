import Derived.Test.YtnlhfjdkhkmaeaaJb
import Derived.Test.YtnlhfjdkhkmaeaaMc
import Derived.Test.YtnlhfjdkhkmaeaaR7
set_option linter.unusedVariables false
set_option linter.unusedSimpArgs false
namespace Go.Proofs.Ytnlhfjdkhkmaeaa
open Go.RowKit
set_option linter.unusedSimpArgs false
structure SgW where
  s : Sg
  q : Int
def rgD (xs : List UInt8) (q : Int) (i : Nat) : Rg := ⟨seqW xs (q + 12 * (i : Int)), seqW xs (q + 12 * (i : Int) + 6)⟩
def rgW (xs : List UInt8) (q : Int) (k : Nat) : List Rg := (List.range k).map (rgD xs q)
def swN (xs : List UInt8) (p : Int) : Nat := (pickV xs (p + 1 + 1 + 1 + 1 + 1 + 1 + 1 + 1) 5).toNat
def swQ (xs : List UInt8) (p : Int) : Int := p + 1 + 1 + 1 + 1 + 1 + 1 + 1 + 1 + 1 + 2 * (swN xs p : Int)
def swB (xs : List UInt8) (p : Int) : SgW := ⟨⟨1 + pickV xs p 3, 1 + pickV xs (p + 1) 3, seqW xs (p + 1 + 1), 0, 0, decide (pickV xs (swQ xs p) 4 = 0), false, decide (pickV xs (swQ xs p + 1) 4 = 0), false, [], bytesV xs (p + 1 + 1 + 1 + 1 + 1 + 1 + 1 + 1 + 1) (swN xs p)⟩, swQ xs p + 1 + 1⟩
def swK (xs : List UInt8) (w : SgW) : Nat := (pickV xs (w.q + 1 + 1 + 1 + 1 + 1 + 1 + 1 + 1) 3).toNat
def swH (xs : List UInt8) (w : SgW) : SgW := if 0 < pickV xs w.q 4 then ⟨{ w.s with he := true, ak := seqW xs (w.q + 1), rm := pickV xs (w.q + 1 + 1 + 1 + 1 + 1 + 1 + 1) 40, rs := rgW xs (w.q + 1 + 1 + 1 + 1 + 1 + 1 + 1 + 1 + 1) (swK xs w) }, w.q + 1 + 1 + 1 + 1 + 1 + 1 + 1 + 1 + 1 + 12 * (swK xs w : Int)⟩ else ⟨w.s, w.q + 1⟩
def swR (xs : List UInt8) (w : SgW) : SgW := if pickV xs w.q 8 = 0 then ⟨{ w.s with re := true, fi := false, la := false, d := [] }, w.q + 1⟩ else ⟨w.s, w.q + 1⟩
def swE (xs : List UInt8) (s : Sg) (x : Int) : SgW :=
  if pickV xs x 4 = 0 then ⟨{ s with f := pickV xs (x + 1) 2 * 256 }, x + 1 + 1⟩
  else if pickV xs x 4 = 1 then ⟨{ s with sq := 65536 - pickV xs (x + 1) 2 * 65540 }, x + 1 + 1⟩
  else if pickV xs x 4 = 2 then ⟨{ s with he := !s.he, ak := 4 }, x + 1⟩
  else ⟨{ s with re := true, d := List.replicate (pickV xs (x + 1) 14).toNat 0 }, x + 1 + 1⟩
def swF (xs : List UInt8) (w : SgW) (n : Int) : SgW := if (decide (0 < n) && pickV xs w.q n == n - 1) = true then swE xs w.s (w.q + oneIf n) else ⟨w.s, w.q + oneIf n⟩
def swV (xs : List UInt8) (p n : Int) : SgW := swF xs (swR xs (swH xs (swB xs p))) n
def swWd (xs : List UInt8) (p : Int) : Nat := if 0 < pickV xs (swB xs p).q 4 then 2 else 1
theorem repl0 (m : Nat) : List.replicate m [D.v (.int .u8 0)] = rowsOfBytes (List.replicate m 0) := by
  simp [rowsOfBytes]
theorem rgW_len (xs : List UInt8) (q : Int) (k : Nat) : (rgW xs q k).length = k := by simp [rgW]
theorem swN_le (xs : List UInt8) (p : Int) : swN xs p ≤ 4 := by
  have := pickV_lt xs (p + 1 + 1 + 1 + 1 + 1 + 1 + 1 + 1) 5 (by omega)
  unfold swN; omega
theorem swK_le (xs : List UInt8) (w : SgW) : swK xs w ≤ 2 := by
  have := pickV_lt xs (w.q + 1 + 1 + 1 + 1 + 1 + 1 + 1 + 1) 3 (by omega)
  unfold swK; omega
theorem swB_q (xs : List UInt8) (p : Int) : p + 11 ≤ (swB xs p).q ∧ (swB xs p).q ≤ p + 19 := by
  have h := swN_le xs p
  show p + 11 ≤ swQ xs p + 1 + 1 ∧ swQ xs p + 1 + 1 ≤ p + 19
  unfold swQ; omega
theorem swH_q (xs : List UInt8) (w : SgW) : w.q ≤ (swH xs w).q ∧ (swH xs w).q ≤ w.q + 33 := by
  have h := swK_le xs w
  unfold swH
  split <;> (dsimp only; omega)
theorem swR_q (xs : List UInt8) (w : SgW) : (swR xs w).q = w.q + 1 := by
  unfold swR
  split <;> rfl
theorem swF_q (xs : List UInt8) (w : SgW) (n : Int) : w.q ≤ (swF xs w n).q ∧ (swF xs w n).q ≤ w.q + 3 := by
  have := oneIf_le n
  unfold swF swE
  repeat' split
  all_goals (dsimp only; omega)
theorem swV_q (xs : List UInt8) (p n : Int) : p ≤ (swV xs p n).q ∧ (swV xs p n).q ≤ p + 60 := by
  have h1 := swB_q xs p
  have h2 := swH_q xs (swB xs p)
  have h3 := swR_q xs (swH xs (swB xs p))
  have h4 := swF_q xs (swR xs (swH xs (swB xs p))) n
  unfold swV; omega
def sgMid (s : Sg) : Prop := (-100000 ≤ s.f ∧ s.f ≤ 100000) ∧ (-100000 ≤ s.t ∧ s.t ≤ 100000) ∧ (-100000 ≤ s.sq ∧ s.sq ≤ 100000) ∧ (-100000 ≤ s.ak ∧ s.ak ≤ 100000) ∧ (-100000 ≤ s.rm ∧ s.rm ≤ 100000) ∧ s.rs.length ≤ 2 ∧ s.d.length ≤ 13
theorem sw_ok (xs : List UInt8) (p : Int) (hp : p < 100000000) : sgB (swR xs (swH xs (swB xs p))).s = true := by
  have h1 := swB_q xs p
  have hn := swN_le xs p
  have a1 := pickV_nonneg xs p 3 (by omega)
  have a2 := pickV_lt xs p 3 (by omega)
  have a3 := pickV_nonneg xs (p + 1) 3 (by omega)
  have a4 := pickV_lt xs (p + 1) 3 (by omega)
  have a5 := seqW_bd xs (p + 1 + 1) (by omega)
  have hd := bytesV_len xs (p + 1 + 1 + 1 + 1 + 1 + 1 + 1 + 1 + 1) (swN xs p)
  have hB : sgB (swB xs p).s = true := sgB_iff.2 ⟨by show 1 ≤ 1 + pickV xs p 3 ∧ _; exact ⟨by omega, by show 1 + pickV xs p 3 ≤ 255; omega⟩, ⟨by show 1 ≤ 1 + pickV xs (p + 1) 3; omega, by show 1 + pickV xs (p + 1) 3 ≤ 255; omega⟩, a5, ⟨by show (0 : Int) ≤ 0; omega, by show (0 : Int) ≤ 65535; omega⟩, ⟨by show (0 : Int) ≤ 0; omega, by show (0 : Int) ≤ 255; omega⟩, Nat.zero_le _, by show (bytesV xs (p + 1 + 1 + 1 + 1 + 1 + 1 + 1 + 1 + 1) (swN xs p)).length ≤ 12; omega, (fun r hr => nomatch hr), (fun _ => ⟨rfl, rfl, rfl⟩), (fun h => nomatch h)⟩
  have hre : (swB xs p).s.re = false := rfl
  generalize swB xs p = w at *
  have hk := swK_le xs w
  have hH : sgB (swH xs w).s = true ∧ (swH xs w).s.re = false := by
    obtain ⟨k1, k2, k3, k4, k5, k6, k7, k8, k9, k10⟩ := sgB_iff.1 hB
    unfold swH
    split
    · refine ⟨sgB_iff.2 ⟨k1, k2, k3, ?_, ?_, ?_, k7, ?_, (fun h => nomatch h), k10⟩, hre⟩
      · exact seqW_bd xs (w.q + 1) (by omega)
      · have b1 := pickV_nonneg xs (w.q + 1 + 1 + 1 + 1 + 1 + 1 + 1) 40 (by omega)
        have b2 := pickV_lt xs (w.q + 1 + 1 + 1 + 1 + 1 + 1 + 1) 40 (by omega)
        show 0 ≤ pickV xs (w.q + 1 + 1 + 1 + 1 + 1 + 1 + 1) 40 ∧ pickV xs (w.q + 1 + 1 + 1 + 1 + 1 + 1 + 1) 40 ≤ 255
        omega
      · show (rgW xs (w.q + 1 + 1 + 1 + 1 + 1 + 1 + 1 + 1 + 1) (swK xs w)).length ≤ 2
        rw [rgW_len]; exact hk
      · intro r hr
        obtain ⟨i, hi, rfl⟩ := List.mem_map.1 hr
        have hi' := List.mem_range.1 hi
        exact rgB_iff.2 ⟨seqW_bd xs _ (by omega), seqW_bd xs _ (by omega)⟩
    · exact ⟨hB, hre⟩
  obtain ⟨k1, k2, k3, k4, k5, k6, k7, k8, k9, k10⟩ := sgB_iff.1 hH.1
  unfold swR
  split
  · exact sgB_iff.2 ⟨k1, k2, k3, k4, k5, k6, Nat.zero_le _, k8, k9, fun _ => ⟨rfl, rfl, rfl⟩⟩
  · exact hH.1
theorem swV_0 (xs : List UInt8) (p : Int) (hp : p < 100000000) : sgB (swV xs p 0).s = true := by
  rw [swV, swF, if_neg (by simp)]
  exact sw_ok xs p hp
theorem swV_mid (xs : List UInt8) (p n : Int) (hp : p < 100000000) : sgMid (swV xs p n).s := by
  have h := sw_ok xs p hp
  have h1 := swB_q xs p
  have h2 := swH_q xs (swB xs p)
  have h3 := swR_q xs (swH xs (swB xs p))
  rw [swV]
  generalize swR xs (swH xs (swB xs p)) = w at *
  have ho := oneIf_le n
  have b1 := pickV_nonneg xs (w.q + oneIf n + 1) 2 (by omega)
  have b2 := pickV_lt xs (w.q + oneIf n + 1) 2 (by omega)
  have b3 := pickV_nonneg xs (w.q + oneIf n + 1) 14 (by omega)
  have b4 := pickV_lt xs (w.q + oneIf n + 1) 14 (by omega)
  obtain ⟨k1, k2, k3, k4, k5, k6, k7, k8, k9, k10⟩ := sgB_iff.1 h
  unfold swF swE sgMid
  repeat' split
  all_goals (dsimp only; try simp only [List.length_replicate]
             omega)
def g_segmentW : OC := fun args B0 => match args, B0 with
  | [.ptr r o, .v (.int .i64 n)], [.var T [.l 1 rows, .v (.int .i64 p)]] => some (T = 73 ∧ r = 0 ∧ o = 0 ∧ (∃ xs, rows = rowsOfBytes xs ∧ xs.length ≤ 2000) ∧ 0 ≤ p ∧ p < 1000000 ∧ 0 ≤ n ∧ n ≤ 1000000, .agg [.v (.int .i64 ((swV (bytesOfRows rows) p n).s).f), .v (.int .i64 ((swV (bytesOfRows rows) p n).s).t), .v (.int .i64 ((swV (bytesOfRows rows) p n).s).sq), .v (.int .i64 ((swV (bytesOfRows rows) p n).s).ak), .v (.int .i64 ((swV (bytesOfRows rows) p n).s).rm), .v (.bool ((swV (bytesOfRows rows) p n).s).fi), .v (.bool ((swV (bytesOfRows rows) p n).s).he), .v (.bool ((swV (bytesOfRows rows) p n).s).la), .v (.bool ((swV (bytesOfRows rows) p n).s).re), .l (swWd (bytesOfRows rows) p) (rgRows ((swV (bytesOfRows rows) p n).s).rs), .l 1 (rowsOfBytes ((swV (bytesOfRows rows) p n).s).d)], [.var T [.l 1 rows, .v (.int .i64 (swV (bytesOfRows rows) p n).q)]], [])
  | _, _ => none
def g_segment : OC := fun args B0 => match args, B0 with
  | [.ptr r o, .v (.int .i64 n)], [.var T [.l 1 rows, .v (.int .i64 p)]] => some (T = 73 ∧ r = 0 ∧ o = 0 ∧ (∃ xs, rows = rowsOfBytes xs ∧ xs.length ≤ 2000) ∧ 0 ≤ p ∧ p < 1000000 ∧ 0 ≤ n ∧ n ≤ 1000000, .agg [.v (.int .i64 ((swV (bytesOfRows rows) p n).s).f), .v (.int .i64 ((swV (bytesOfRows rows) p n).s).t), .v (.int .i64 ((swV (bytesOfRows rows) p n).s).sq), .v (.int .i64 ((swV (bytesOfRows rows) p n).s).ak), .v (.int .i64 ((swV (bytesOfRows rows) p n).s).rm), .v (.bool ((swV (bytesOfRows rows) p n).s).fi), .v (.bool ((swV (bytesOfRows rows) p n).s).he), .v (.bool ((swV (bytesOfRows rows) p n).s).la), .v (.bool ((swV (bytesOfRows rows) p n).s).re), .l 2 (rgRows ((swV (bytesOfRows rows) p n).s).rs), .l 1 (rowsOfBytes ((swV (bytesOfRows rows) p n).s).d)], [.var T [.l 1 rows, .v (.int .i64 (swV (bytesOfRows rows) p n).q)]], [])
  | _, _ => none
def rdsg : List (FuncId × Abs) := [(42, ownAbs g_pick), (63, ownAbs g_odd), (62, ownAbs g_bytes), (61, ownAbs g_seq)]
theorem rdsg_ok : ∀ p ∈ rdsg, CallOk Try.prog p.1 p.2 := by
  intro p hp
  simp only [rdsg, List.mem_cons, List.not_mem_nil, or_false] at hp
  rcases hp with rfl | rfl | rfl | rfl
  · exact pick_ok.call
  · exact odd_ok.call
  · exact bytes_ok.call
  · exact seq_ok.call
set_option maxHeartbeats 8000000 in
set_option maxRecDepth 100000 in
theorem l20SegmentW_ok : OwnOk Try.prog 35 g_segmentW := by
  refine OwnOk.of_vcL (G := rdsg) rdsg_ok mixed Try.func35 (by kernel_rfl) rfl ?_
  intro args B0 cnd r B1 bs hg hc hlive
  unfold g_segmentW at hg
  split at hg
  · rename_i r o n T rows p
    cases hg
    obtain ⟨rfl, rfl, rfl, ⟨xs, rfl, hl⟩, hp0, hp1, hn0, hn1⟩ := hc
    rw [bytesOf_rows]
    have a1 := pickV_nonneg xs p 3 (by omega)
    have a2 := pickV_lt xs p 3 (by omega)
    have a3 := pickV_nonneg xs (p + 1) 3 (by omega)
    have a4 := pickV_lt xs (p + 1) 3 (by omega)
    have w1 : IntKind.i64.wrap (1 + pickV xs p 3) = 1 + pickV xs p 3 := wrap_id (by omega) (by omega)
    have w2 : IntKind.i64.wrap (1 + pickV xs (p + 1) 3) = 1 + pickV xs (p + 1) 3 := wrap_id (by omega) (by omega)
    have k0 := pickV_nonneg xs (p + 1 + 1 + 1 + 1 + 1 + 1 + 1 + 1) 5 (by omega)
    have k1 := pickV_lt xs (p + 1 + 1 + 1 + 1 + 1 + 1 + 1 + 1) 5 (by omega)
    have hB0 := swB_q xs p
    obtain ⟨B, hB⟩ : ∃ B, B = swB xs p := ⟨_, rfl⟩
    have hV : swV xs p n = swF xs (swR xs (swH xs B)) n := by rw [swV, hB]
    have hWd : swWd xs p = if 0 < pickV xs B.q 4 then 2 else 1 := by rw [swWd, hB]
    rw [hV, hWd]
    clear hV hWd
    rw [← hB] at hB0
    obtain ⟨N, hN⟩ : ∃ N, N = swN xs p := ⟨_, rfl⟩
    have hN' : (pickV xs (p + 1 + 1 + 1 + 1 + 1 + 1 + 1 + 1) 5).toNat = N := by rw [hN, swN]
    obtain ⟨q, hq⟩ : ∃ q, q = swQ xs p := ⟨_, rfl⟩
    have hq' : p + 1 + 1 + 1 + 1 + 1 + 1 + 1 + 1 + 1 + 2 * (N : Int) = q := by rw [hq, swQ, hN]
    obtain ⟨Q, hQ⟩ : ∃ Q, Q = B.q := ⟨_, rfl⟩
    have hQ' : q + 1 + 1 = Q := by rw [hQ, hB, hq]; rfl
    have hBe : B = ⟨⟨1 + pickV xs p 3, 1 + pickV xs (p + 1) 3, seqW xs (p + 1 + 1), 0, 0, decide (pickV xs q 4 = 0), false, decide (pickV xs (q + 1) 4 = 0), false, [], bytesV xs (p + 1 + 1 + 1 + 1 + 1 + 1 + 1 + 1 + 1) N⟩, Q⟩ := by rw [hB, swB, ← hQ', hq, hN]
    rw [← hQ] at hB0 ⊢
    clear hB hQ hN hq
    obtain ⟨fi, hfi⟩ : ∃ b, b = decide (pickV xs q 4 = 0) := ⟨_, rfl⟩
    obtain ⟨la, hla⟩ : ∃ b, b = decide (pickV xs (q + 1) 4 = 0) := ⟨_, rfl⟩
    have hfi' := hfi.symm
    have hla' := hla.symm
    have hfb : (pickV xs q 4 == 0) = fi := hfi'
    have hlb : (pickV xs (q + 1) 4 == 0) = la := hla'
    rw [hfi', hla'] at hBe
    clear hfi hla hfi' hla'
    obtain ⟨f, hf⟩ : ∃ f, 1 + pickV xs p 3 = f := ⟨_, rfl⟩
    obtain ⟨t, ht⟩ : ∃ t, 1 + pickV xs (p + 1) 3 = t := ⟨_, rfl⟩
    obtain ⟨sq, hsq⟩ : ∃ s, seqW xs (p + 1 + 1) = s := ⟨_, rfl⟩
    obtain ⟨dd, hdd⟩ : ∃ dd, bytesV xs (p + 1 + 1 + 1 + 1 + 1 + 1 + 1 + 1 + 1) N = dd := ⟨_, rfl⟩
    have hDl : dd.length ≤ 4 := by rw [← hdd, bytesV_len]; omega
    rw [hf] at w1
    rw [ht] at w2
    rw [hf, ht, hsq, hdd] at hBe
    obtain ⟨e, he⟩ : ∃ e, e = oneIf n := ⟨_, rfl⟩
    have be := oneIf_le n
    rw [← he] at be
    have he' : (if 0 < n then (1 : Int) else 0) = e := he.symm
    refine ⟨⟨by simp [likeBs, likeB], rfl, fun b hb => by simp at hb; subst hb; exact ⟨_, _, rfl, rfl⟩, by simp [AV.ids, AV.ids.idsL]⟩, _, rfl, fun w Z s vs h => h, ?_⟩
    clear hlive
    have hx : (∃ ys, rowsOfBytes xs = rowsOfBytes ys ∧ ys.length ≤ 2000) = True := eq_true ⟨xs, rfl, hl⟩
    by_cases h4 : 0 < pickV xs Q 4
    · have c4 : (pickV xs Q 4 > 0) = True := eq_true h4
      rw [if_pos h4]
      have m0 := pickV_nonneg xs (Q + 1 + 1 + 1 + 1 + 1 + 1 + 1) 40 (by omega)
      have m1 := pickV_lt xs (Q + 1 + 1 + 1 + 1 + 1 + 1 + 1) 40 (by omega)
      have m2 := pickV_nonneg xs (Q + 1 + 1 + 1 + 1 + 1 + 1 + 1 + 1) 3 (by omega)
      have m3 := pickV_lt xs (Q + 1 + 1 + 1 + 1 + 1 + 1 + 1 + 1) 3 (by omega)
      obtain ⟨K, hK⟩ : ∃ K, swK xs B = K := ⟨_, rfl⟩
      have hK' : pickV xs (Q + 1 + 1 + 1 + 1 + 1 + 1 + 1 + 1) 3 = (K : Int) := by rw [← hK, swK, hBe]; dsimp only; omega
      have eH : swH xs B = ⟨⟨f, t, sq, seqW xs (Q + 1), pickV xs (Q + 1 + 1 + 1 + 1 + 1 + 1 + 1) 40, fi, true, la, false, rgW xs (Q + 1 + 1 + 1 + 1 + 1 + 1 + 1 + 1 + 1) K, dd⟩, Q + 1 + 1 + 1 + 1 + 1 + 1 + 1 + 1 + 1 + 12 * (K : Int)⟩ := by rw [swH, hK, hBe, if_pos h4]
      rw [eH]
      clear eH
      obtain ⟨Z0, hZ0⟩ : ∃ Z, Q + 1 + 1 + 1 + 1 + 1 + 1 + 1 + 1 + 1 = Z := ⟨_, rfl⟩
      obtain ⟨ak, hak⟩ : ∃ a, seqW xs (Q + 1) = a := ⟨_, rfl⟩
      obtain ⟨rm, hrm⟩ : ∃ a, pickV xs (Q + 1 + 1 + 1 + 1 + 1 + 1 + 1) 40 = a := ⟨_, rfl⟩
      rw [hZ0, hak, hrm]
      simp (maxSteps := 3000000) only [Try.f35, rdsg, g_pick, g_odd, g_bytes, g_seq, bytesOf_rows, rowsOf_len, rgRows_len, repl0, hN', hq', hQ', hfb, hlb, hf, ht, hsq, hdd, he', w1, w2, c4, hK', hZ0, hak, hrm, hx, ↓reduceIte, Bool.false_eq_true, doneL_ret, doneL_normal, tYs, evL, implies_true, oMin, x_max, oMax, oCopy, oBin, oUn, oLoadKid, oStoreTree, oField, oExtract, oNil, oSliceQ, oSliceE, x_appendZ, oAppendZ, oSliceEnd, endMode, oLoadRow, takeCells, TS.atRow, TS.ex, treeMode, AV.isOwn, TK.isSl, nilTk, nilsB, oLenQ, oLen, nodupB, treeOf, kidAbs, kidRows, TK.isCell, D.toL, oLoad, oStore, oMake, oIndexAddr, ↓reduceIte, reduceCtorEq, Nat.reduceBEq, Nat.reduceAdd, Nat.reduceMul, Nat.reduceLT, Nat.reduceSub, Nat.reduceLeDiff, Nat.reduceEqDiff, Nat.reduceBneDiff, Int.reduceToNat, decide_eq_true_eq, decide_eq_false_iff_not, beq_iff_eq, Int.toNat_natCast, loopK_normal, loopK_exit, loopK_ret]
      clear hBe
      (repeat (refine And.intro ?_ ?_; focus (((repeat' apply And.intro) <;> first | exact rowsOf_w _ | omega | (simp only [List.length_append, rowsOf_len, List.length_cons, List.length_nil, marks_len, List.length_take, List.length_drop, List.length_set]; omega) | exact ⟨_, rfl⟩ | (refine ⟨_, rfl, ?_⟩; omega) | (refine ⟨_, rfl, ?_⟩; simp only [List.length_append, rowsOf_len, List.length_cons, List.length_nil, marks_len, List.length_take, List.length_drop, List.length_set]; omega) | kernel_rfl | (simp; done)); done)))
      refine e_loop _ _ _ _ _ _ _ _ (fun j : Nat => [.ptr 0 0, .v (.int .i64 n), .any, .any, .ptr 1 0, .ptr 3 0, .v (.int .i64 ((K : Int) - (j : Int)))] ++ List.replicate (Try.f35.ntmps - 7) .any) (fun j => [(0, .var 73 [.l 1 (rowsOfBytes xs), .v (.int .i64 (Z0 + 12 * (j : Int)))]), (1, .var 25 [.v (.int .i64 0), .v (.int .i64 0), .v (.int .i64 0), .v (.int .i64 0), .v (.int .i64 0), .v (.bool false), .v (.bool false), .v (.bool false), .v (.bool false), .v (.slice none 0 0), .v (.slice none 0 0)]), (2, .sl 5 1 (rowsOfBytes dd)), (3, .var 25 [.v (.int .i64 f), .v (.int .i64 t), .v (.int .i64 sq), .v (.int .i64 ak), .v (.int .i64 rm), .v (.bool fi), .v (.bool true), .v (.bool la), .v (.bool false), .own 4, .own 2]), (4, .sl 57 2 (rgRows (rgW xs Z0 j)))]) (fun j => j ≤ K) (fun j => K - j) 5 (fun j => by simp) ?_ fun j hk' => ?_
      · exact ⟨0, [(0, some 0), (1, some _), (2, some _), (3, some _), (4, none)], Nat.zero_le _, ⟨⟨⟨rfl, rfl, rfl⟩, ⟨rfl, rfl, rfl⟩, trivial, trivial, ⟨rfl, rfl, rfl⟩, ⟨rfl, rfl, rfl⟩, ⟨congrArg (fun z => AV.v (Value.int .i64 z)) (by omega), rfl, rfl⟩, fitT_rep _ _ rfl⟩, ⟨.inl (congrArg (fun z => Blk.var 73 [AV.l 1 (rowsOfBytes xs), AV.v (Value.int .i64 z)]) (show Z0 = Z0 + 12 * ((0 : Nat) : Int) by omega)), rfl, rfl, rfl, .inl rfl, rfl, rfl, rfl, .inl rfl, rfl, rfl, rfl, .inl rfl, rfl, rfl, rfl, ⟨by omega, rfl⟩, rfl, rfl, rfl, trivial⟩, by simp [rn, hpAt]⟩, by simp [keepIds, rn]⟩
      have hj : j ≤ K := hk'
      by_cases hk : j < K
      · have d0 : ((K : Int) - (j : Int) > 0) = True := eq_true (by omega)
        have w7 : IntKind.i64.wrap ((K : Int) - (j : Int) - 1) = (K : Int) - ((j + 1 : Nat) : Int) := by rw [wrap_id] <;> omega
        have e6 : Z0 + 12 * (j : Int) + 1 + 1 + 1 + 1 + 1 + 1 = Z0 + 12 * (j : Int) + 6 := by omega
        have e12 : Z0 + 12 * (j : Int) + 6 + 1 + 1 + 1 + 1 + 1 + 1 = Z0 + 12 * ((j + 1 : Nat) : Int) := by omega
        have hnx : rgRows (rgW xs Z0 j) ++ [[.v (.int .i64 (seqW xs (Z0 + 12 * (j : Int)))), .v (.int .i64 (seqW xs (Z0 + 12 * (j : Int) + 6)))]] = rgRows (rgW xs Z0 (j + 1)) := by
          rw [rgW, rgW, List.range_succ, List.map_append, ← rgRows_app]; rfl
        have hlj := rgW_len xs Z0 j
        simp (maxSteps := 3000000) only [Try.f35, rdsg, g_pick, g_odd, g_bytes, g_seq, bytesOf_rows, rowsOf_len, rgRows_len, repl0, d0, w7, e6, e12, hnx, hlj, hx, ↓reduceIte, Bool.false_eq_true, doneL_ret, doneL_normal, tYs, evL, implies_true, oMin, x_max, oMax, oCopy, oBin, oUn, oLoadKid, oStoreTree, oField, oExtract, oNil, oSliceQ, oSliceE, x_appendZ, oAppendZ, oSliceEnd, endMode, oLoadRow, takeCells, TS.atRow, TS.ex, treeMode, AV.isOwn, TK.isSl, nilTk, nilsB, oLenQ, oLen, nodupB, treeOf, kidAbs, kidRows, TK.isCell, D.toL, oLoad, oStore, oMake, oIndexAddr, ↓reduceIte, reduceCtorEq, Nat.reduceBEq, Nat.reduceAdd, Nat.reduceMul, Nat.reduceLT, Nat.reduceSub, Nat.reduceLeDiff, Nat.reduceEqDiff, Nat.reduceBneDiff, Int.reduceToNat, decide_eq_true_eq, decide_eq_false_iff_not, beq_iff_eq, Int.toNat_natCast, loopK_normal, loopK_exit, loopK_ret]
        clear hnx e6 e12 w7
        (repeat (refine And.intro ?_ ?_; focus (((repeat' apply And.intro) <;> first | exact rowsOf_w _ | omega | (simp only [List.length_append, rowsOf_len, List.length_cons, List.length_nil, marks_len, List.length_take, List.length_drop, List.length_set]; omega) | exact ⟨_, rfl⟩ | (refine ⟨_, rfl, ?_⟩; omega) | (refine ⟨_, rfl, ?_⟩; simp only [List.length_append, rowsOf_len, List.length_cons, List.length_nil, marks_len, List.length_take, List.length_drop, List.length_set]; omega) | kernel_rfl | (simp; done)); done)))
        exact ⟨j + 1, [(0, some 0), (1, some 1), (2, some 2), (3, some 3), (4, some _)], by omega, by omega, ⟨⟨⟨rfl, rfl, rfl⟩, ⟨rfl, rfl, rfl⟩, trivial, trivial, ⟨rfl, rfl, rfl⟩, ⟨rfl, rfl, rfl⟩, ⟨rfl, rfl, rfl⟩, fitT_rep _ _ rfl⟩, ⟨.inl rfl, rfl, rfl, rfl, .inl rfl, rfl, rfl, rfl, .inl rfl, rfl, rfl, rfl, .inl rfl, rfl, rfl, rfl, .inl rfl, rfl, rfl, rfl, trivial⟩, by simp [rn, hpAt]⟩, by simp [keepIds, rn]⟩
      · obtain rfl : j = K := by omega
        have dz : ((j : Int) - (j : Int) > 0) = False := eq_false (by omega)
        obtain ⟨Z, hZ⟩ : ∃ Z, Z0 + 12 * (j : Int) = Z := ⟨_, rfl⟩
        rw [hZ]
        have bZ : 0 ≤ Z ∧ Z < 2000000 := by omega
        have hlj := rgW_len xs Z0 j
        by_cases z8 : pickV xs Z 8 = 0
        · have c8 : (pickV xs Z 8 = 0) = True := eq_true z8
          have e8 : swR xs ⟨⟨f, t, sq, ak, rm, fi, true, la, false, rgW xs Z0 j, dd⟩, Z⟩ = ⟨⟨f, t, sq, ak, rm, false, true, false, true, rgW xs Z0 j, []⟩, Z + 1⟩ := by rw [swR, if_pos z8]
          by_cases ho : (decide (0 < n) && pickV xs (Z + 1) n == n - 1) = true
          · have co : (decide (0 < n) && pickV xs (Z + 1) n == n - 1) = true := ho
            have b1 := pickV_nonneg xs (Z + 1 + e + 1) 2 (by omega)
            have b2 := pickV_lt xs (Z + 1 + e + 1) 2 (by omega)
            have b3 := pickV_nonneg xs (Z + 1 + e + 1) 14 (by omega)
            have b4 := pickV_lt xs (Z + 1 + e + 1) 14 (by omega)
            have v1 : IntKind.i64.wrap (pickV xs (Z + 1 + e + 1) 2 * 256) = pickV xs (Z + 1 + e + 1) 2 * 256 := wrap_id (by omega) (by omega)
            have v2 : IntKind.i64.wrap (pickV xs (Z + 1 + e + 1) 2 * 65540) = pickV xs (Z + 1 + e + 1) 2 * 65540 := wrap_id (by omega) (by omega)
            have v3 : IntKind.i64.wrap (65536 - pickV xs (Z + 1 + e + 1) 2 * 65540) = 65536 - pickV xs (Z + 1 + e + 1) 2 * 65540 := wrap_id (by omega) (by omega)
            by_cases y0 : pickV xs (Z + 1 + e) 4 = 0
            · have d0 : (pickV xs (Z + 1 + e) 4 = 0) = True := eq_true y0
              have db0 : (pickV xs (Z + 1 + e) 4 == 0) = true := by simp [y0]
              have ev : swF xs ⟨⟨f, t, sq, ak, rm, false, true, false, true, rgW xs Z0 j, []⟩, Z + 1⟩ n = ⟨⟨pickV xs (Z + 1 + e + 1) 2 * 256, t, sq, ak, rm, false, true, false, true, rgW xs Z0 j, []⟩, Z + 1 + e + 1 + 1⟩ := by rw [swF, if_pos ho, swE, ← he, if_pos y0]
              rw [e8, ev]
              simp (maxSteps := 3000000) only [Try.f35, rdsg, g_pick, g_odd, g_bytes, g_seq, bytesOf_rows, rowsOf_len, rgRows_len, repl0, dz, hZ, he', c8, co, d0, db0, v1, v2, v3, hx, ↓reduceIte, Bool.false_eq_true, doneL_ret, doneL_normal, tYs, evL, implies_true, oMin, x_max, oMax, oCopy, oBin, oUn, oLoadKid, oStoreTree, oField, oExtract, oNil, oSliceQ, oSliceE, x_appendZ, oAppendZ, oSliceEnd, endMode, oLoadRow, takeCells, TS.atRow, TS.ex, treeMode, AV.isOwn, TK.isSl, nilTk, nilsB, oLenQ, oLen, nodupB, treeOf, kidAbs, kidRows, TK.isCell, D.toL, oLoad, oStore, oMake, oIndexAddr, ↓reduceIte, reduceCtorEq, Nat.reduceBEq, Nat.reduceAdd, Nat.reduceMul, Nat.reduceLT, Nat.reduceSub, Nat.reduceLeDiff, Nat.reduceEqDiff, Nat.reduceBneDiff, Int.reduceToNat, decide_eq_true_eq, decide_eq_false_iff_not, beq_iff_eq, Int.toNat_natCast, loopK_normal, loopK_exit, loopK_ret]
              clear e8 ev
              (repeat (refine And.intro ?_ ?_; focus (((repeat' apply And.intro) <;> first | exact rowsOf_w _ | omega | (simp only [List.length_append, rowsOf_len, List.length_cons, List.length_nil, marks_len, List.length_take, List.length_drop, List.length_set]; omega) | exact ⟨_, rfl⟩ | (refine ⟨_, rfl, ?_⟩; omega) | (refine ⟨_, rfl, ?_⟩; simp only [List.length_append, rowsOf_len, List.length_cons, List.length_nil, marks_len, List.length_take, List.length_drop, List.length_set]; omega) | kernel_rfl | (simp; done)); done)))
              exact ⟨_, rfl, rfl, rfl⟩
            · have d0 : (pickV xs (Z + 1 + e) 4 = 0) = False := eq_false y0
              have db0 : (pickV xs (Z + 1 + e) 4 == 0) = false := by simp [y0]
              by_cases y1 : pickV xs (Z + 1 + e) 4 = 1
              · have d1 : (pickV xs (Z + 1 + e) 4 = 1) = True := eq_true y1
                have db1 : (pickV xs (Z + 1 + e) 4 == 1) = true := by simp [y1]
                have ev : swF xs ⟨⟨f, t, sq, ak, rm, false, true, false, true, rgW xs Z0 j, []⟩, Z + 1⟩ n = ⟨⟨f, t, 65536 - pickV xs (Z + 1 + e + 1) 2 * 65540, ak, rm, false, true, false, true, rgW xs Z0 j, []⟩, Z + 1 + e + 1 + 1⟩ := by rw [swF, if_pos ho, swE, ← he, if_neg y0, if_pos y1]
                rw [e8, ev]
                simp (maxSteps := 3000000) only [Try.f35, rdsg, g_pick, g_odd, g_bytes, g_seq, bytesOf_rows, rowsOf_len, rgRows_len, repl0, dz, hZ, he', c8, co, d0, db0, d1, db1, v1, v2, v3, hx, ↓reduceIte, Bool.false_eq_true, doneL_ret, doneL_normal, tYs, evL, implies_true, oMin, x_max, oMax, oCopy, oBin, oUn, oLoadKid, oStoreTree, oField, oExtract, oNil, oSliceQ, oSliceE, x_appendZ, oAppendZ, oSliceEnd, endMode, oLoadRow, takeCells, TS.atRow, TS.ex, treeMode, AV.isOwn, TK.isSl, nilTk, nilsB, oLenQ, oLen, nodupB, treeOf, kidAbs, kidRows, TK.isCell, D.toL, oLoad, oStore, oMake, oIndexAddr, ↓reduceIte, reduceCtorEq, Nat.reduceBEq, Nat.reduceAdd, Nat.reduceMul, Nat.reduceLT, Nat.reduceSub, Nat.reduceLeDiff, Nat.reduceEqDiff, Nat.reduceBneDiff, Int.reduceToNat, decide_eq_true_eq, decide_eq_false_iff_not, beq_iff_eq, Int.toNat_natCast, loopK_normal, loopK_exit, loopK_ret]
                clear e8 ev
                (repeat (refine And.intro ?_ ?_; focus (((repeat' apply And.intro) <;> first | exact rowsOf_w _ | omega | (simp only [List.length_append, rowsOf_len, List.length_cons, List.length_nil, marks_len, List.length_take, List.length_drop, List.length_set]; omega) | exact ⟨_, rfl⟩ | (refine ⟨_, rfl, ?_⟩; omega) | (refine ⟨_, rfl, ?_⟩; simp only [List.length_append, rowsOf_len, List.length_cons, List.length_nil, marks_len, List.length_take, List.length_drop, List.length_set]; omega) | kernel_rfl | (simp; done)); done)))
                exact ⟨_, rfl, rfl, rfl⟩
              · have d1 : (pickV xs (Z + 1 + e) 4 = 1) = False := eq_false y1
                have db1 : (pickV xs (Z + 1 + e) 4 == 1) = false := by simp [y1]
                by_cases y2 : pickV xs (Z + 1 + e) 4 = 2
                · have d2 : (pickV xs (Z + 1 + e) 4 = 2) = True := eq_true y2
                  have db2 : (pickV xs (Z + 1 + e) 4 == 2) = true := by simp [y2]
                  have ev : swF xs ⟨⟨f, t, sq, ak, rm, false, true, false, true, rgW xs Z0 j, []⟩, Z + 1⟩ n = ⟨⟨f, t, sq, 4, rm, false, !true, false, true, rgW xs Z0 j, []⟩, Z + 1 + e + 1⟩ := by rw [swF, if_pos ho, swE, ← he, if_neg y0, if_neg y1, if_pos y2]
                  rw [e8, ev]
                  simp (maxSteps := 3000000) only [Try.f35, rdsg, g_pick, g_odd, g_bytes, g_seq, bytesOf_rows, rowsOf_len, rgRows_len, repl0, dz, hZ, he', c8, co, d0, db0, d1, db1, d2, db2, v1, v2, v3, hx, ↓reduceIte, Bool.false_eq_true, doneL_ret, doneL_normal, tYs, evL, implies_true, oMin, x_max, oMax, oCopy, oBin, oUn, oLoadKid, oStoreTree, oField, oExtract, oNil, oSliceQ, oSliceE, x_appendZ, oAppendZ, oSliceEnd, endMode, oLoadRow, takeCells, TS.atRow, TS.ex, treeMode, AV.isOwn, TK.isSl, nilTk, nilsB, oLenQ, oLen, nodupB, treeOf, kidAbs, kidRows, TK.isCell, D.toL, oLoad, oStore, oMake, oIndexAddr, ↓reduceIte, reduceCtorEq, Nat.reduceBEq, Nat.reduceAdd, Nat.reduceMul, Nat.reduceLT, Nat.reduceSub, Nat.reduceLeDiff, Nat.reduceEqDiff, Nat.reduceBneDiff, Int.reduceToNat, decide_eq_true_eq, decide_eq_false_iff_not, beq_iff_eq, Int.toNat_natCast, loopK_normal, loopK_exit, loopK_ret]
                  clear e8 ev
                  (repeat (refine And.intro ?_ ?_; focus (((repeat' apply And.intro) <;> first | exact rowsOf_w _ | omega | (simp only [List.length_append, rowsOf_len, List.length_cons, List.length_nil, marks_len, List.length_take, List.length_drop, List.length_set]; omega) | exact ⟨_, rfl⟩ | (refine ⟨_, rfl, ?_⟩; omega) | (refine ⟨_, rfl, ?_⟩; simp only [List.length_append, rowsOf_len, List.length_cons, List.length_nil, marks_len, List.length_take, List.length_drop, List.length_set]; omega) | kernel_rfl | (simp; done)); done)))
                  exact ⟨_, rfl, rfl, rfl⟩
                · have d2 : (pickV xs (Z + 1 + e) 4 = 2) = False := eq_false y2
                  have db2 : (pickV xs (Z + 1 + e) 4 == 2) = false := by simp [y2]
                  have ev : swF xs ⟨⟨f, t, sq, ak, rm, false, true, false, true, rgW xs Z0 j, []⟩, Z + 1⟩ n = ⟨⟨f, t, sq, ak, rm, false, true, false, true, rgW xs Z0 j, List.replicate (pickV xs (Z + 1 + e + 1) 14).toNat 0⟩, Z + 1 + e + 1 + 1⟩ := by rw [swF, if_pos ho, swE, ← he, if_neg y0, if_neg y1, if_neg y2]
                  rw [e8, ev]
                  simp (maxSteps := 3000000) only [Try.f35, rdsg, g_pick, g_odd, g_bytes, g_seq, bytesOf_rows, rowsOf_len, rgRows_len, repl0, dz, hZ, he', c8, co, d0, db0, d1, db1, d2, db2, hx, ↓reduceIte, Bool.false_eq_true, doneL_ret, doneL_normal, tYs, evL, implies_true, oMin, x_max, oMax, oCopy, oBin, oUn, oLoadKid, oStoreTree, oField, oExtract, oNil, oSliceQ, oSliceE, x_appendZ, oAppendZ, oSliceEnd, endMode, oLoadRow, takeCells, TS.atRow, TS.ex, treeMode, AV.isOwn, TK.isSl, nilTk, nilsB, oLenQ, oLen, nodupB, treeOf, kidAbs, kidRows, TK.isCell, D.toL, oLoad, oStore, oMake, oIndexAddr, ↓reduceIte, reduceCtorEq, Nat.reduceBEq, Nat.reduceAdd, Nat.reduceMul, Nat.reduceLT, Nat.reduceSub, Nat.reduceLeDiff, Nat.reduceEqDiff, Nat.reduceBneDiff, Int.reduceToNat, decide_eq_true_eq, decide_eq_false_iff_not, beq_iff_eq, Int.toNat_natCast, loopK_normal, loopK_exit, loopK_ret]
                  clear e8 ev
                  (repeat (refine And.intro ?_ ?_; focus (((repeat' apply And.intro) <;> first | exact rowsOf_w _ | omega | (simp only [List.length_append, rowsOf_len, List.length_cons, List.length_nil, marks_len, List.length_take, List.length_drop, List.length_set]; omega) | exact ⟨_, rfl⟩ | (refine ⟨_, rfl, ?_⟩; omega) | (refine ⟨_, rfl, ?_⟩; simp only [List.length_append, rowsOf_len, List.length_cons, List.length_nil, marks_len, List.length_take, List.length_drop, List.length_set]; omega) | kernel_rfl | (simp; done)); done)))
                  exact ⟨_, rfl, rfl, rfl⟩
          · have co : (decide (0 < n) && pickV xs (Z + 1) n == n - 1) = false := by simpa using ho
            have ev : swF xs ⟨⟨f, t, sq, ak, rm, false, true, false, true, rgW xs Z0 j, []⟩, Z + 1⟩ n = ⟨⟨f, t, sq, ak, rm, false, true, false, true, rgW xs Z0 j, []⟩, Z + 1 + e⟩ := by rw [swF, if_neg ho, ← he]
            rw [e8, ev]
            simp (maxSteps := 3000000) only [Try.f35, rdsg, g_pick, g_odd, g_bytes, g_seq, bytesOf_rows, rowsOf_len, rgRows_len, repl0, dz, hZ, he', c8, co, hx, ↓reduceIte, Bool.false_eq_true, doneL_ret, doneL_normal, tYs, evL, implies_true, oMin, x_max, oMax, oCopy, oBin, oUn, oLoadKid, oStoreTree, oField, oExtract, oNil, oSliceQ, oSliceE, x_appendZ, oAppendZ, oSliceEnd, endMode, oLoadRow, takeCells, TS.atRow, TS.ex, treeMode, AV.isOwn, TK.isSl, nilTk, nilsB, oLenQ, oLen, nodupB, treeOf, kidAbs, kidRows, TK.isCell, D.toL, oLoad, oStore, oMake, oIndexAddr, ↓reduceIte, reduceCtorEq, Nat.reduceBEq, Nat.reduceAdd, Nat.reduceMul, Nat.reduceLT, Nat.reduceSub, Nat.reduceLeDiff, Nat.reduceEqDiff, Nat.reduceBneDiff, Int.reduceToNat, decide_eq_true_eq, decide_eq_false_iff_not, beq_iff_eq, Int.toNat_natCast, loopK_normal, loopK_exit, loopK_ret]
            clear e8 ev
            (repeat (refine And.intro ?_ ?_; focus (((repeat' apply And.intro) <;> first | exact rowsOf_w _ | omega | (simp only [List.length_append, rowsOf_len, List.length_cons, List.length_nil, marks_len, List.length_take, List.length_drop, List.length_set]; omega) | exact ⟨_, rfl⟩ | (refine ⟨_, rfl, ?_⟩; omega) | (refine ⟨_, rfl, ?_⟩; simp only [List.length_append, rowsOf_len, List.length_cons, List.length_nil, marks_len, List.length_take, List.length_drop, List.length_set]; omega) | kernel_rfl | (simp; done)); done)))
            exact ⟨_, rfl, rfl, rfl⟩
        · have c8 : (pickV xs Z 8 = 0) = False := eq_false z8
          have e8 : swR xs ⟨⟨f, t, sq, ak, rm, fi, true, la, false, rgW xs Z0 j, dd⟩, Z⟩ = ⟨⟨f, t, sq, ak, rm, fi, true, la, false, rgW xs Z0 j, dd⟩, Z + 1⟩ := by rw [swR, if_neg z8]
          by_cases ho : (decide (0 < n) && pickV xs (Z + 1) n == n - 1) = true
          · have co : (decide (0 < n) && pickV xs (Z + 1) n == n - 1) = true := ho
            have b1 := pickV_nonneg xs (Z + 1 + e + 1) 2 (by omega)
            have b2 := pickV_lt xs (Z + 1 + e + 1) 2 (by omega)
            have b3 := pickV_nonneg xs (Z + 1 + e + 1) 14 (by omega)
            have b4 := pickV_lt xs (Z + 1 + e + 1) 14 (by omega)
            have v1 : IntKind.i64.wrap (pickV xs (Z + 1 + e + 1) 2 * 256) = pickV xs (Z + 1 + e + 1) 2 * 256 := wrap_id (by omega) (by omega)
            have v2 : IntKind.i64.wrap (pickV xs (Z + 1 + e + 1) 2 * 65540) = pickV xs (Z + 1 + e + 1) 2 * 65540 := wrap_id (by omega) (by omega)
            have v3 : IntKind.i64.wrap (65536 - pickV xs (Z + 1 + e + 1) 2 * 65540) = 65536 - pickV xs (Z + 1 + e + 1) 2 * 65540 := wrap_id (by omega) (by omega)
            by_cases y0 : pickV xs (Z + 1 + e) 4 = 0
            · have d0 : (pickV xs (Z + 1 + e) 4 = 0) = True := eq_true y0
              have db0 : (pickV xs (Z + 1 + e) 4 == 0) = true := by simp [y0]
              have ev : swF xs ⟨⟨f, t, sq, ak, rm, fi, true, la, false, rgW xs Z0 j, dd⟩, Z + 1⟩ n = ⟨⟨pickV xs (Z + 1 + e + 1) 2 * 256, t, sq, ak, rm, fi, true, la, false, rgW xs Z0 j, dd⟩, Z + 1 + e + 1 + 1⟩ := by rw [swF, if_pos ho, swE, ← he, if_pos y0]
              rw [e8, ev]
              simp (maxSteps := 3000000) only [Try.f35, rdsg, g_pick, g_odd, g_bytes, g_seq, bytesOf_rows, rowsOf_len, rgRows_len, repl0, dz, hZ, he', c8, co, d0, db0, v1, v2, v3, hx, ↓reduceIte, Bool.false_eq_true, doneL_ret, doneL_normal, tYs, evL, implies_true, oMin, x_max, oMax, oCopy, oBin, oUn, oLoadKid, oStoreTree, oField, oExtract, oNil, oSliceQ, oSliceE, x_appendZ, oAppendZ, oSliceEnd, endMode, oLoadRow, takeCells, TS.atRow, TS.ex, treeMode, AV.isOwn, TK.isSl, nilTk, nilsB, oLenQ, oLen, nodupB, treeOf, kidAbs, kidRows, TK.isCell, D.toL, oLoad, oStore, oMake, oIndexAddr, ↓reduceIte, reduceCtorEq, Nat.reduceBEq, Nat.reduceAdd, Nat.reduceMul, Nat.reduceLT, Nat.reduceSub, Nat.reduceLeDiff, Nat.reduceEqDiff, Nat.reduceBneDiff, Int.reduceToNat, decide_eq_true_eq, decide_eq_false_iff_not, beq_iff_eq, Int.toNat_natCast, loopK_normal, loopK_exit, loopK_ret]
              clear e8 ev
              (repeat (refine And.intro ?_ ?_; focus (((repeat' apply And.intro) <;> first | exact rowsOf_w _ | omega | (simp only [List.length_append, rowsOf_len, List.length_cons, List.length_nil, marks_len, List.length_take, List.length_drop, List.length_set]; omega) | exact ⟨_, rfl⟩ | (refine ⟨_, rfl, ?_⟩; omega) | (refine ⟨_, rfl, ?_⟩; simp only [List.length_append, rowsOf_len, List.length_cons, List.length_nil, marks_len, List.length_take, List.length_drop, List.length_set]; omega) | kernel_rfl | (simp; done)); done)))
              exact ⟨_, rfl, rfl, rfl⟩
            · have d0 : (pickV xs (Z + 1 + e) 4 = 0) = False := eq_false y0
              have db0 : (pickV xs (Z + 1 + e) 4 == 0) = false := by simp [y0]
              by_cases y1 : pickV xs (Z + 1 + e) 4 = 1
              · have d1 : (pickV xs (Z + 1 + e) 4 = 1) = True := eq_true y1
                have db1 : (pickV xs (Z + 1 + e) 4 == 1) = true := by simp [y1]
                have ev : swF xs ⟨⟨f, t, sq, ak, rm, fi, true, la, false, rgW xs Z0 j, dd⟩, Z + 1⟩ n = ⟨⟨f, t, 65536 - pickV xs (Z + 1 + e + 1) 2 * 65540, ak, rm, fi, true, la, false, rgW xs Z0 j, dd⟩, Z + 1 + e + 1 + 1⟩ := by rw [swF, if_pos ho, swE, ← he, if_neg y0, if_pos y1]
                rw [e8, ev]
                simp (maxSteps := 3000000) only [Try.f35, rdsg, g_pick, g_odd, g_bytes, g_seq, bytesOf_rows, rowsOf_len, rgRows_len, repl0, dz, hZ, he', c8, co, d0, db0, d1, db1, v1, v2, v3, hx, ↓reduceIte, Bool.false_eq_true, doneL_ret, doneL_normal, tYs, evL, implies_true, oMin, x_max, oMax, oCopy, oBin, oUn, oLoadKid, oStoreTree, oField, oExtract, oNil, oSliceQ, oSliceE, x_appendZ, oAppendZ, oSliceEnd, endMode, oLoadRow, takeCells, TS.atRow, TS.ex, treeMode, AV.isOwn, TK.isSl, nilTk, nilsB, oLenQ, oLen, nodupB, treeOf, kidAbs, kidRows, TK.isCell, D.toL, oLoad, oStore, oMake, oIndexAddr, ↓reduceIte, reduceCtorEq, Nat.reduceBEq, Nat.reduceAdd, Nat.reduceMul, Nat.reduceLT, Nat.reduceSub, Nat.reduceLeDiff, Nat.reduceEqDiff, Nat.reduceBneDiff, Int.reduceToNat, decide_eq_true_eq, decide_eq_false_iff_not, beq_iff_eq, Int.toNat_natCast, loopK_normal, loopK_exit, loopK_ret]
                clear e8 ev
                (repeat (refine And.intro ?_ ?_; focus (((repeat' apply And.intro) <;> first | exact rowsOf_w _ | omega | (simp only [List.length_append, rowsOf_len, List.length_cons, List.length_nil, marks_len, List.length_take, List.length_drop, List.length_set]; omega) | exact ⟨_, rfl⟩ | (refine ⟨_, rfl, ?_⟩; omega) | (refine ⟨_, rfl, ?_⟩; simp only [List.length_append, rowsOf_len, List.length_cons, List.length_nil, marks_len, List.length_take, List.length_drop, List.length_set]; omega) | kernel_rfl | (simp; done)); done)))
                exact ⟨_, rfl, rfl, rfl⟩
              · have d1 : (pickV xs (Z + 1 + e) 4 = 1) = False := eq_false y1
                have db1 : (pickV xs (Z + 1 + e) 4 == 1) = false := by simp [y1]
                by_cases y2 : pickV xs (Z + 1 + e) 4 = 2
                · have d2 : (pickV xs (Z + 1 + e) 4 = 2) = True := eq_true y2
                  have db2 : (pickV xs (Z + 1 + e) 4 == 2) = true := by simp [y2]
                  have ev : swF xs ⟨⟨f, t, sq, ak, rm, fi, true, la, false, rgW xs Z0 j, dd⟩, Z + 1⟩ n = ⟨⟨f, t, sq, 4, rm, fi, !true, la, false, rgW xs Z0 j, dd⟩, Z + 1 + e + 1⟩ := by rw [swF, if_pos ho, swE, ← he, if_neg y0, if_neg y1, if_pos y2]
                  rw [e8, ev]
                  simp (maxSteps := 3000000) only [Try.f35, rdsg, g_pick, g_odd, g_bytes, g_seq, bytesOf_rows, rowsOf_len, rgRows_len, repl0, dz, hZ, he', c8, co, d0, db0, d1, db1, d2, db2, v1, v2, v3, hx, ↓reduceIte, Bool.false_eq_true, doneL_ret, doneL_normal, tYs, evL, implies_true, oMin, x_max, oMax, oCopy, oBin, oUn, oLoadKid, oStoreTree, oField, oExtract, oNil, oSliceQ, oSliceE, x_appendZ, oAppendZ, oSliceEnd, endMode, oLoadRow, takeCells, TS.atRow, TS.ex, treeMode, AV.isOwn, TK.isSl, nilTk, nilsB, oLenQ, oLen, nodupB, treeOf, kidAbs, kidRows, TK.isCell, D.toL, oLoad, oStore, oMake, oIndexAddr, ↓reduceIte, reduceCtorEq, Nat.reduceBEq, Nat.reduceAdd, Nat.reduceMul, Nat.reduceLT, Nat.reduceSub, Nat.reduceLeDiff, Nat.reduceEqDiff, Nat.reduceBneDiff, Int.reduceToNat, decide_eq_true_eq, decide_eq_false_iff_not, beq_iff_eq, Int.toNat_natCast, loopK_normal, loopK_exit, loopK_ret]
                  clear e8 ev
                  (repeat (refine And.intro ?_ ?_; focus (((repeat' apply And.intro) <;> first | exact rowsOf_w _ | omega | (simp only [List.length_append, rowsOf_len, List.length_cons, List.length_nil, marks_len, List.length_take, List.length_drop, List.length_set]; omega) | exact ⟨_, rfl⟩ | (refine ⟨_, rfl, ?_⟩; omega) | (refine ⟨_, rfl, ?_⟩; simp only [List.length_append, rowsOf_len, List.length_cons, List.length_nil, marks_len, List.length_take, List.length_drop, List.length_set]; omega) | kernel_rfl | (simp; done)); done)))
                  exact ⟨_, rfl, rfl, rfl⟩
                · have d2 : (pickV xs (Z + 1 + e) 4 = 2) = False := eq_false y2
                  have db2 : (pickV xs (Z + 1 + e) 4 == 2) = false := by simp [y2]
                  have ev : swF xs ⟨⟨f, t, sq, ak, rm, fi, true, la, false, rgW xs Z0 j, dd⟩, Z + 1⟩ n = ⟨⟨f, t, sq, ak, rm, fi, true, la, true, rgW xs Z0 j, List.replicate (pickV xs (Z + 1 + e + 1) 14).toNat 0⟩, Z + 1 + e + 1 + 1⟩ := by rw [swF, if_pos ho, swE, ← he, if_neg y0, if_neg y1, if_neg y2]
                  rw [e8, ev]
                  simp (maxSteps := 3000000) only [Try.f35, rdsg, g_pick, g_odd, g_bytes, g_seq, bytesOf_rows, rowsOf_len, rgRows_len, repl0, dz, hZ, he', c8, co, d0, db0, d1, db1, d2, db2, hx, ↓reduceIte, Bool.false_eq_true, doneL_ret, doneL_normal, tYs, evL, implies_true, oMin, x_max, oMax, oCopy, oBin, oUn, oLoadKid, oStoreTree, oField, oExtract, oNil, oSliceQ, oSliceE, x_appendZ, oAppendZ, oSliceEnd, endMode, oLoadRow, takeCells, TS.atRow, TS.ex, treeMode, AV.isOwn, TK.isSl, nilTk, nilsB, oLenQ, oLen, nodupB, treeOf, kidAbs, kidRows, TK.isCell, D.toL, oLoad, oStore, oMake, oIndexAddr, ↓reduceIte, reduceCtorEq, Nat.reduceBEq, Nat.reduceAdd, Nat.reduceMul, Nat.reduceLT, Nat.reduceSub, Nat.reduceLeDiff, Nat.reduceEqDiff, Nat.reduceBneDiff, Int.reduceToNat, decide_eq_true_eq, decide_eq_false_iff_not, beq_iff_eq, Int.toNat_natCast, loopK_normal, loopK_exit, loopK_ret]
                  clear e8 ev
                  (repeat (refine And.intro ?_ ?_; focus (((repeat' apply And.intro) <;> first | exact rowsOf_w _ | omega | (simp only [List.length_append, rowsOf_len, List.length_cons, List.length_nil, marks_len, List.length_take, List.length_drop, List.length_set]; omega) | exact ⟨_, rfl⟩ | (refine ⟨_, rfl, ?_⟩; omega) | (refine ⟨_, rfl, ?_⟩; simp only [List.length_append, rowsOf_len, List.length_cons, List.length_nil, marks_len, List.length_take, List.length_drop, List.length_set]; omega) | kernel_rfl | (simp; done)); done)))
                  exact ⟨_, rfl, rfl, rfl⟩
          · have co : (decide (0 < n) && pickV xs (Z + 1) n == n - 1) = false := by simpa using ho
            have ev : swF xs ⟨⟨f, t, sq, ak, rm, fi, true, la, false, rgW xs Z0 j, dd⟩, Z + 1⟩ n = ⟨⟨f, t, sq, ak, rm, fi, true, la, false, rgW xs Z0 j, dd⟩, Z + 1 + e⟩ := by rw [swF, if_neg ho, ← he]
            rw [e8, ev]
            simp (maxSteps := 3000000) only [Try.f35, rdsg, g_pick, g_odd, g_bytes, g_seq, bytesOf_rows, rowsOf_len, rgRows_len, repl0, dz, hZ, he', c8, co, hx, ↓reduceIte, Bool.false_eq_true, doneL_ret, doneL_normal, tYs, evL, implies_true, oMin, x_max, oMax, oCopy, oBin, oUn, oLoadKid, oStoreTree, oField, oExtract, oNil, oSliceQ, oSliceE, x_appendZ, oAppendZ, oSliceEnd, endMode, oLoadRow, takeCells, TS.atRow, TS.ex, treeMode, AV.isOwn, TK.isSl, nilTk, nilsB, oLenQ, oLen, nodupB, treeOf, kidAbs, kidRows, TK.isCell, D.toL, oLoad, oStore, oMake, oIndexAddr, ↓reduceIte, reduceCtorEq, Nat.reduceBEq, Nat.reduceAdd, Nat.reduceMul, Nat.reduceLT, Nat.reduceSub, Nat.reduceLeDiff, Nat.reduceEqDiff, Nat.reduceBneDiff, Int.reduceToNat, decide_eq_true_eq, decide_eq_false_iff_not, beq_iff_eq, Int.toNat_natCast, loopK_normal, loopK_exit, loopK_ret]
            clear e8 ev
            (repeat (refine And.intro ?_ ?_; focus (((repeat' apply And.intro) <;> first | exact rowsOf_w _ | omega | (simp only [List.length_append, rowsOf_len, List.length_cons, List.length_nil, marks_len, List.length_take, List.length_drop, List.length_set]; omega) | exact ⟨_, rfl⟩ | (refine ⟨_, rfl, ?_⟩; omega) | (refine ⟨_, rfl, ?_⟩; simp only [List.length_append, rowsOf_len, List.length_cons, List.length_nil, marks_len, List.length_take, List.length_drop, List.length_set]; omega) | kernel_rfl | (simp; done)); done)))
            exact ⟨_, rfl, rfl, rfl⟩
    · have c4 : (pickV xs Q 4 > 0) = False := eq_false h4
      rw [if_neg h4]
      have eH : swH xs B = ⟨⟨f, t, sq, 0, 0, fi, false, la, false, [], dd⟩, Q + 1⟩ := by rw [hBe, swH, if_neg h4]
      rw [eH]
      clear eH
      obtain ⟨Z, hZ⟩ : ∃ Z, Z = Q + 1 := ⟨_, rfl⟩
      have hZ' := hZ.symm
      rw [hZ']
      clear hZ
      by_cases z8 : pickV xs Z 8 = 0
      · have c8 : (pickV xs Z 8 = 0) = True := eq_true z8
        have e8 : swR xs ⟨⟨f, t, sq, 0, 0, fi, false, la, false, [], dd⟩, Z⟩ = ⟨⟨f, t, sq, 0, 0, false, false, false, true, [], []⟩, Z + 1⟩ := by rw [swR, if_pos z8]
        by_cases ho : (decide (0 < n) && pickV xs (Z + 1) n == n - 1) = true
        · have co : (decide (0 < n) && pickV xs (Z + 1) n == n - 1) = true := ho
          have b1 := pickV_nonneg xs (Z + 1 + e + 1) 2 (by omega)
          have b2 := pickV_lt xs (Z + 1 + e + 1) 2 (by omega)
          have b3 := pickV_nonneg xs (Z + 1 + e + 1) 14 (by omega)
          have b4 := pickV_lt xs (Z + 1 + e + 1) 14 (by omega)
          have v1 : IntKind.i64.wrap (pickV xs (Z + 1 + e + 1) 2 * 256) = pickV xs (Z + 1 + e + 1) 2 * 256 := wrap_id (by omega) (by omega)
          have v2 : IntKind.i64.wrap (pickV xs (Z + 1 + e + 1) 2 * 65540) = pickV xs (Z + 1 + e + 1) 2 * 65540 := wrap_id (by omega) (by omega)
          have v3 : IntKind.i64.wrap (65536 - pickV xs (Z + 1 + e + 1) 2 * 65540) = 65536 - pickV xs (Z + 1 + e + 1) 2 * 65540 := wrap_id (by omega) (by omega)
          by_cases y0 : pickV xs (Z + 1 + e) 4 = 0
          · have d0 : (pickV xs (Z + 1 + e) 4 = 0) = True := eq_true y0
            have db0 : (pickV xs (Z + 1 + e) 4 == 0) = true := by simp [y0]
            have ev : swF xs ⟨⟨f, t, sq, 0, 0, false, false, false, true, [], []⟩, Z + 1⟩ n = ⟨⟨pickV xs (Z + 1 + e + 1) 2 * 256, t, sq, 0, 0, false, false, false, true, [], []⟩, Z + 1 + e + 1 + 1⟩ := by rw [swF, if_pos ho, swE, ← he, if_pos y0]
            rw [e8, ev]
            simp (maxSteps := 3000000) only [Try.f35, rdsg, g_pick, g_odd, g_bytes, g_seq, bytesOf_rows, rowsOf_len, rgRows_len, repl0, hN', hq', hQ', hfb, hlb, hf, ht, hsq, hdd, he', w1, w2, c4, hZ', c8, co, d0, db0, v1, v2, v3, hx, ↓reduceIte, Bool.false_eq_true, doneL_ret, doneL_normal, tYs, evL, implies_true, oMin, x_max, oMax, oCopy, oBin, oUn, oLoadKid, oStoreTree, oField, oExtract, oNil, oSliceQ, oSliceE, x_appendZ, oAppendZ, oSliceEnd, endMode, oLoadRow, takeCells, TS.atRow, TS.ex, treeMode, AV.isOwn, TK.isSl, nilTk, nilsB, oLenQ, oLen, nodupB, treeOf, kidAbs, kidRows, TK.isCell, D.toL, oLoad, oStore, oMake, oIndexAddr, ↓reduceIte, reduceCtorEq, Nat.reduceBEq, Nat.reduceAdd, Nat.reduceMul, Nat.reduceLT, Nat.reduceSub, Nat.reduceLeDiff, Nat.reduceEqDiff, Nat.reduceBneDiff, Int.reduceToNat, decide_eq_true_eq, decide_eq_false_iff_not, beq_iff_eq, Int.toNat_natCast, loopK_normal, loopK_exit, loopK_ret]
            clear hBe e8 ev
            (repeat (refine And.intro ?_ ?_; focus (((repeat' apply And.intro) <;> first | exact rowsOf_w _ | omega | (simp only [List.length_append, rowsOf_len, List.length_cons, List.length_nil, marks_len, List.length_take, List.length_drop, List.length_set]; omega) | exact ⟨_, rfl⟩ | (refine ⟨_, rfl, ?_⟩; omega) | (refine ⟨_, rfl, ?_⟩; simp only [List.length_append, rowsOf_len, List.length_cons, List.length_nil, marks_len, List.length_take, List.length_drop, List.length_set]; omega) | kernel_rfl | (simp; done)); done)))
            exact ⟨_, rfl, rfl, rfl⟩
          · have d0 : (pickV xs (Z + 1 + e) 4 = 0) = False := eq_false y0
            have db0 : (pickV xs (Z + 1 + e) 4 == 0) = false := by simp [y0]
            by_cases y1 : pickV xs (Z + 1 + e) 4 = 1
            · have d1 : (pickV xs (Z + 1 + e) 4 = 1) = True := eq_true y1
              have db1 : (pickV xs (Z + 1 + e) 4 == 1) = true := by simp [y1]
              have ev : swF xs ⟨⟨f, t, sq, 0, 0, false, false, false, true, [], []⟩, Z + 1⟩ n = ⟨⟨f, t, 65536 - pickV xs (Z + 1 + e + 1) 2 * 65540, 0, 0, false, false, false, true, [], []⟩, Z + 1 + e + 1 + 1⟩ := by rw [swF, if_pos ho, swE, ← he, if_neg y0, if_pos y1]
              rw [e8, ev]
              simp (maxSteps := 3000000) only [Try.f35, rdsg, g_pick, g_odd, g_bytes, g_seq, bytesOf_rows, rowsOf_len, rgRows_len, repl0, hN', hq', hQ', hfb, hlb, hf, ht, hsq, hdd, he', w1, w2, c4, hZ', c8, co, d0, db0, d1, db1, v1, v2, v3, hx, ↓reduceIte, Bool.false_eq_true, doneL_ret, doneL_normal, tYs, evL, implies_true, oMin, x_max, oMax, oCopy, oBin, oUn, oLoadKid, oStoreTree, oField, oExtract, oNil, oSliceQ, oSliceE, x_appendZ, oAppendZ, oSliceEnd, endMode, oLoadRow, takeCells, TS.atRow, TS.ex, treeMode, AV.isOwn, TK.isSl, nilTk, nilsB, oLenQ, oLen, nodupB, treeOf, kidAbs, kidRows, TK.isCell, D.toL, oLoad, oStore, oMake, oIndexAddr, ↓reduceIte, reduceCtorEq, Nat.reduceBEq, Nat.reduceAdd, Nat.reduceMul, Nat.reduceLT, Nat.reduceSub, Nat.reduceLeDiff, Nat.reduceEqDiff, Nat.reduceBneDiff, Int.reduceToNat, decide_eq_true_eq, decide_eq_false_iff_not, beq_iff_eq, Int.toNat_natCast, loopK_normal, loopK_exit, loopK_ret]
              clear hBe e8 ev
              (repeat (refine And.intro ?_ ?_; focus (((repeat' apply And.intro) <;> first | exact rowsOf_w _ | omega | (simp only [List.length_append, rowsOf_len, List.length_cons, List.length_nil, marks_len, List.length_take, List.length_drop, List.length_set]; omega) | exact ⟨_, rfl⟩ | (refine ⟨_, rfl, ?_⟩; omega) | (refine ⟨_, rfl, ?_⟩; simp only [List.length_append, rowsOf_len, List.length_cons, List.length_nil, marks_len, List.length_take, List.length_drop, List.length_set]; omega) | kernel_rfl | (simp; done)); done)))
              exact ⟨_, rfl, rfl, rfl⟩
            · have d1 : (pickV xs (Z + 1 + e) 4 = 1) = False := eq_false y1
              have db1 : (pickV xs (Z + 1 + e) 4 == 1) = false := by simp [y1]
              by_cases y2 : pickV xs (Z + 1 + e) 4 = 2
              · have d2 : (pickV xs (Z + 1 + e) 4 = 2) = True := eq_true y2
                have db2 : (pickV xs (Z + 1 + e) 4 == 2) = true := by simp [y2]
                have ev : swF xs ⟨⟨f, t, sq, 0, 0, false, false, false, true, [], []⟩, Z + 1⟩ n = ⟨⟨f, t, sq, 4, 0, false, !false, false, true, [], []⟩, Z + 1 + e + 1⟩ := by rw [swF, if_pos ho, swE, ← he, if_neg y0, if_neg y1, if_pos y2]
                rw [e8, ev]
                simp (maxSteps := 3000000) only [Try.f35, rdsg, g_pick, g_odd, g_bytes, g_seq, bytesOf_rows, rowsOf_len, rgRows_len, repl0, hN', hq', hQ', hfb, hlb, hf, ht, hsq, hdd, he', w1, w2, c4, hZ', c8, co, d0, db0, d1, db1, d2, db2, v1, v2, v3, hx, ↓reduceIte, Bool.false_eq_true, doneL_ret, doneL_normal, tYs, evL, implies_true, oMin, x_max, oMax, oCopy, oBin, oUn, oLoadKid, oStoreTree, oField, oExtract, oNil, oSliceQ, oSliceE, x_appendZ, oAppendZ, oSliceEnd, endMode, oLoadRow, takeCells, TS.atRow, TS.ex, treeMode, AV.isOwn, TK.isSl, nilTk, nilsB, oLenQ, oLen, nodupB, treeOf, kidAbs, kidRows, TK.isCell, D.toL, oLoad, oStore, oMake, oIndexAddr, ↓reduceIte, reduceCtorEq, Nat.reduceBEq, Nat.reduceAdd, Nat.reduceMul, Nat.reduceLT, Nat.reduceSub, Nat.reduceLeDiff, Nat.reduceEqDiff, Nat.reduceBneDiff, Int.reduceToNat, decide_eq_true_eq, decide_eq_false_iff_not, beq_iff_eq, Int.toNat_natCast, loopK_normal, loopK_exit, loopK_ret]
                clear hBe e8 ev
                (repeat (refine And.intro ?_ ?_; focus (((repeat' apply And.intro) <;> first | exact rowsOf_w _ | omega | (simp only [List.length_append, rowsOf_len, List.length_cons, List.length_nil, marks_len, List.length_take, List.length_drop, List.length_set]; omega) | exact ⟨_, rfl⟩ | (refine ⟨_, rfl, ?_⟩; omega) | (refine ⟨_, rfl, ?_⟩; simp only [List.length_append, rowsOf_len, List.length_cons, List.length_nil, marks_len, List.length_take, List.length_drop, List.length_set]; omega) | kernel_rfl | (simp; done)); done)))
                exact ⟨_, rfl, rfl, rfl⟩
              · have d2 : (pickV xs (Z + 1 + e) 4 = 2) = False := eq_false y2
                have db2 : (pickV xs (Z + 1 + e) 4 == 2) = false := by simp [y2]
                have ev : swF xs ⟨⟨f, t, sq, 0, 0, false, false, false, true, [], []⟩, Z + 1⟩ n = ⟨⟨f, t, sq, 0, 0, false, false, false, true, [], List.replicate (pickV xs (Z + 1 + e + 1) 14).toNat 0⟩, Z + 1 + e + 1 + 1⟩ := by rw [swF, if_pos ho, swE, ← he, if_neg y0, if_neg y1, if_neg y2]
                rw [e8, ev]
                simp (maxSteps := 3000000) only [Try.f35, rdsg, g_pick, g_odd, g_bytes, g_seq, bytesOf_rows, rowsOf_len, rgRows_len, repl0, hN', hq', hQ', hfb, hlb, hf, ht, hsq, hdd, he', w1, w2, c4, hZ', c8, co, d0, db0, d1, db1, d2, db2, hx, ↓reduceIte, Bool.false_eq_true, doneL_ret, doneL_normal, tYs, evL, implies_true, oMin, x_max, oMax, oCopy, oBin, oUn, oLoadKid, oStoreTree, oField, oExtract, oNil, oSliceQ, oSliceE, x_appendZ, oAppendZ, oSliceEnd, endMode, oLoadRow, takeCells, TS.atRow, TS.ex, treeMode, AV.isOwn, TK.isSl, nilTk, nilsB, oLenQ, oLen, nodupB, treeOf, kidAbs, kidRows, TK.isCell, D.toL, oLoad, oStore, oMake, oIndexAddr, ↓reduceIte, reduceCtorEq, Nat.reduceBEq, Nat.reduceAdd, Nat.reduceMul, Nat.reduceLT, Nat.reduceSub, Nat.reduceLeDiff, Nat.reduceEqDiff, Nat.reduceBneDiff, Int.reduceToNat, decide_eq_true_eq, decide_eq_false_iff_not, beq_iff_eq, Int.toNat_natCast, loopK_normal, loopK_exit, loopK_ret]
                clear hBe e8 ev
                (repeat (refine And.intro ?_ ?_; focus (((repeat' apply And.intro) <;> first | exact rowsOf_w _ | omega | (simp only [List.length_append, rowsOf_len, List.length_cons, List.length_nil, marks_len, List.length_take, List.length_drop, List.length_set]; omega) | exact ⟨_, rfl⟩ | (refine ⟨_, rfl, ?_⟩; omega) | (refine ⟨_, rfl, ?_⟩; simp only [List.length_append, rowsOf_len, List.length_cons, List.length_nil, marks_len, List.length_take, List.length_drop, List.length_set]; omega) | kernel_rfl | (simp; done)); done)))
                exact ⟨_, rfl, rfl, rfl⟩
        · have co : (decide (0 < n) && pickV xs (Z + 1) n == n - 1) = false := by simpa using ho
          have ev : swF xs ⟨⟨f, t, sq, 0, 0, false, false, false, true, [], []⟩, Z + 1⟩ n = ⟨⟨f, t, sq, 0, 0, false, false, false, true, [], []⟩, Z + 1 + e⟩ := by rw [swF, if_neg ho, ← he]
          rw [e8, ev]
          simp (maxSteps := 3000000) only [Try.f35, rdsg, g_pick, g_odd, g_bytes, g_seq, bytesOf_rows, rowsOf_len, rgRows_len, repl0, hN', hq', hQ', hfb, hlb, hf, ht, hsq, hdd, he', w1, w2, c4, hZ', c8, co, hx, ↓reduceIte, Bool.false_eq_true, doneL_ret, doneL_normal, tYs, evL, implies_true, oMin, x_max, oMax, oCopy, oBin, oUn, oLoadKid, oStoreTree, oField, oExtract, oNil, oSliceQ, oSliceE, x_appendZ, oAppendZ, oSliceEnd, endMode, oLoadRow, takeCells, TS.atRow, TS.ex, treeMode, AV.isOwn, TK.isSl, nilTk, nilsB, oLenQ, oLen, nodupB, treeOf, kidAbs, kidRows, TK.isCell, D.toL, oLoad, oStore, oMake, oIndexAddr, ↓reduceIte, reduceCtorEq, Nat.reduceBEq, Nat.reduceAdd, Nat.reduceMul, Nat.reduceLT, Nat.reduceSub, Nat.reduceLeDiff, Nat.reduceEqDiff, Nat.reduceBneDiff, Int.reduceToNat, decide_eq_true_eq, decide_eq_false_iff_not, beq_iff_eq, Int.toNat_natCast, loopK_normal, loopK_exit, loopK_ret]
          clear hBe e8 ev
          (repeat (refine And.intro ?_ ?_; focus (((repeat' apply And.intro) <;> first | exact rowsOf_w _ | omega | (simp only [List.length_append, rowsOf_len, List.length_cons, List.length_nil, marks_len, List.length_take, List.length_drop, List.length_set]; omega) | exact ⟨_, rfl⟩ | (refine ⟨_, rfl, ?_⟩; omega) | (refine ⟨_, rfl, ?_⟩; simp only [List.length_append, rowsOf_len, List.length_cons, List.length_nil, marks_len, List.length_take, List.length_drop, List.length_set]; omega) | kernel_rfl | (simp; done)); done)))
          exact ⟨_, rfl, rfl, rfl⟩
      · have c8 : (pickV xs Z 8 = 0) = False := eq_false z8
        have e8 : swR xs ⟨⟨f, t, sq, 0, 0, fi, false, la, false, [], dd⟩, Z⟩ = ⟨⟨f, t, sq, 0, 0, fi, false, la, false, [], dd⟩, Z + 1⟩ := by rw [swR, if_neg z8]
        by_cases ho : (decide (0 < n) && pickV xs (Z + 1) n == n - 1) = true
        · have co : (decide (0 < n) && pickV xs (Z + 1) n == n - 1) = true := ho
          have b1 := pickV_nonneg xs (Z + 1 + e + 1) 2 (by omega)
          have b2 := pickV_lt xs (Z + 1 + e + 1) 2 (by omega)
          have b3 := pickV_nonneg xs (Z + 1 + e + 1) 14 (by omega)
          have b4 := pickV_lt xs (Z + 1 + e + 1) 14 (by omega)
          have v1 : IntKind.i64.wrap (pickV xs (Z + 1 + e + 1) 2 * 256) = pickV xs (Z + 1 + e + 1) 2 * 256 := wrap_id (by omega) (by omega)
          have v2 : IntKind.i64.wrap (pickV xs (Z + 1 + e + 1) 2 * 65540) = pickV xs (Z + 1 + e + 1) 2 * 65540 := wrap_id (by omega) (by omega)
          have v3 : IntKind.i64.wrap (65536 - pickV xs (Z + 1 + e + 1) 2 * 65540) = 65536 - pickV xs (Z + 1 + e + 1) 2 * 65540 := wrap_id (by omega) (by omega)
          by_cases y0 : pickV xs (Z + 1 + e) 4 = 0
          · have d0 : (pickV xs (Z + 1 + e) 4 = 0) = True := eq_true y0
            have db0 : (pickV xs (Z + 1 + e) 4 == 0) = true := by simp [y0]
            have ev : swF xs ⟨⟨f, t, sq, 0, 0, fi, false, la, false, [], dd⟩, Z + 1⟩ n = ⟨⟨pickV xs (Z + 1 + e + 1) 2 * 256, t, sq, 0, 0, fi, false, la, false, [], dd⟩, Z + 1 + e + 1 + 1⟩ := by rw [swF, if_pos ho, swE, ← he, if_pos y0]
            rw [e8, ev]
            simp (maxSteps := 3000000) only [Try.f35, rdsg, g_pick, g_odd, g_bytes, g_seq, bytesOf_rows, rowsOf_len, rgRows_len, repl0, hN', hq', hQ', hfb, hlb, hf, ht, hsq, hdd, he', w1, w2, c4, hZ', c8, co, d0, db0, v1, v2, v3, hx, ↓reduceIte, Bool.false_eq_true, doneL_ret, doneL_normal, tYs, evL, implies_true, oMin, x_max, oMax, oCopy, oBin, oUn, oLoadKid, oStoreTree, oField, oExtract, oNil, oSliceQ, oSliceE, x_appendZ, oAppendZ, oSliceEnd, endMode, oLoadRow, takeCells, TS.atRow, TS.ex, treeMode, AV.isOwn, TK.isSl, nilTk, nilsB, oLenQ, oLen, nodupB, treeOf, kidAbs, kidRows, TK.isCell, D.toL, oLoad, oStore, oMake, oIndexAddr, ↓reduceIte, reduceCtorEq, Nat.reduceBEq, Nat.reduceAdd, Nat.reduceMul, Nat.reduceLT, Nat.reduceSub, Nat.reduceLeDiff, Nat.reduceEqDiff, Nat.reduceBneDiff, Int.reduceToNat, decide_eq_true_eq, decide_eq_false_iff_not, beq_iff_eq, Int.toNat_natCast, loopK_normal, loopK_exit, loopK_ret]
            clear hBe e8 ev
            (repeat (refine And.intro ?_ ?_; focus (((repeat' apply And.intro) <;> first | exact rowsOf_w _ | omega | (simp only [List.length_append, rowsOf_len, List.length_cons, List.length_nil, marks_len, List.length_take, List.length_drop, List.length_set]; omega) | exact ⟨_, rfl⟩ | (refine ⟨_, rfl, ?_⟩; omega) | (refine ⟨_, rfl, ?_⟩; simp only [List.length_append, rowsOf_len, List.length_cons, List.length_nil, marks_len, List.length_take, List.length_drop, List.length_set]; omega) | kernel_rfl | (simp; done)); done)))
            exact ⟨_, rfl, rfl, rfl⟩
          · have d0 : (pickV xs (Z + 1 + e) 4 = 0) = False := eq_false y0
            have db0 : (pickV xs (Z + 1 + e) 4 == 0) = false := by simp [y0]
            by_cases y1 : pickV xs (Z + 1 + e) 4 = 1
            · have d1 : (pickV xs (Z + 1 + e) 4 = 1) = True := eq_true y1
              have db1 : (pickV xs (Z + 1 + e) 4 == 1) = true := by simp [y1]
              have ev : swF xs ⟨⟨f, t, sq, 0, 0, fi, false, la, false, [], dd⟩, Z + 1⟩ n = ⟨⟨f, t, 65536 - pickV xs (Z + 1 + e + 1) 2 * 65540, 0, 0, fi, false, la, false, [], dd⟩, Z + 1 + e + 1 + 1⟩ := by rw [swF, if_pos ho, swE, ← he, if_neg y0, if_pos y1]
              rw [e8, ev]
              simp (maxSteps := 3000000) only [Try.f35, rdsg, g_pick, g_odd, g_bytes, g_seq, bytesOf_rows, rowsOf_len, rgRows_len, repl0, hN', hq', hQ', hfb, hlb, hf, ht, hsq, hdd, he', w1, w2, c4, hZ', c8, co, d0, db0, d1, db1, v1, v2, v3, hx, ↓reduceIte, Bool.false_eq_true, doneL_ret, doneL_normal, tYs, evL, implies_true, oMin, x_max, oMax, oCopy, oBin, oUn, oLoadKid, oStoreTree, oField, oExtract, oNil, oSliceQ, oSliceE, x_appendZ, oAppendZ, oSliceEnd, endMode, oLoadRow, takeCells, TS.atRow, TS.ex, treeMode, AV.isOwn, TK.isSl, nilTk, nilsB, oLenQ, oLen, nodupB, treeOf, kidAbs, kidRows, TK.isCell, D.toL, oLoad, oStore, oMake, oIndexAddr, ↓reduceIte, reduceCtorEq, Nat.reduceBEq, Nat.reduceAdd, Nat.reduceMul, Nat.reduceLT, Nat.reduceSub, Nat.reduceLeDiff, Nat.reduceEqDiff, Nat.reduceBneDiff, Int.reduceToNat, decide_eq_true_eq, decide_eq_false_iff_not, beq_iff_eq, Int.toNat_natCast, loopK_normal, loopK_exit, loopK_ret]
              clear hBe e8 ev
              (repeat (refine And.intro ?_ ?_; focus (((repeat' apply And.intro) <;> first | exact rowsOf_w _ | omega | (simp only [List.length_append, rowsOf_len, List.length_cons, List.length_nil, marks_len, List.length_take, List.length_drop, List.length_set]; omega) | exact ⟨_, rfl⟩ | (refine ⟨_, rfl, ?_⟩; omega) | (refine ⟨_, rfl, ?_⟩; simp only [List.length_append, rowsOf_len, List.length_cons, List.length_nil, marks_len, List.length_take, List.length_drop, List.length_set]; omega) | kernel_rfl | (simp; done)); done)))
              exact ⟨_, rfl, rfl, rfl⟩
            · have d1 : (pickV xs (Z + 1 + e) 4 = 1) = False := eq_false y1
              have db1 : (pickV xs (Z + 1 + e) 4 == 1) = false := by simp [y1]
              by_cases y2 : pickV xs (Z + 1 + e) 4 = 2
              · have d2 : (pickV xs (Z + 1 + e) 4 = 2) = True := eq_true y2
                have db2 : (pickV xs (Z + 1 + e) 4 == 2) = true := by simp [y2]
                have ev : swF xs ⟨⟨f, t, sq, 0, 0, fi, false, la, false, [], dd⟩, Z + 1⟩ n = ⟨⟨f, t, sq, 4, 0, fi, !false, la, false, [], dd⟩, Z + 1 + e + 1⟩ := by rw [swF, if_pos ho, swE, ← he, if_neg y0, if_neg y1, if_pos y2]
                rw [e8, ev]
                simp (maxSteps := 3000000) only [Try.f35, rdsg, g_pick, g_odd, g_bytes, g_seq, bytesOf_rows, rowsOf_len, rgRows_len, repl0, hN', hq', hQ', hfb, hlb, hf, ht, hsq, hdd, he', w1, w2, c4, hZ', c8, co, d0, db0, d1, db1, d2, db2, v1, v2, v3, hx, ↓reduceIte, Bool.false_eq_true, doneL_ret, doneL_normal, tYs, evL, implies_true, oMin, x_max, oMax, oCopy, oBin, oUn, oLoadKid, oStoreTree, oField, oExtract, oNil, oSliceQ, oSliceE, x_appendZ, oAppendZ, oSliceEnd, endMode, oLoadRow, takeCells, TS.atRow, TS.ex, treeMode, AV.isOwn, TK.isSl, nilTk, nilsB, oLenQ, oLen, nodupB, treeOf, kidAbs, kidRows, TK.isCell, D.toL, oLoad, oStore, oMake, oIndexAddr, ↓reduceIte, reduceCtorEq, Nat.reduceBEq, Nat.reduceAdd, Nat.reduceMul, Nat.reduceLT, Nat.reduceSub, Nat.reduceLeDiff, Nat.reduceEqDiff, Nat.reduceBneDiff, Int.reduceToNat, decide_eq_true_eq, decide_eq_false_iff_not, beq_iff_eq, Int.toNat_natCast, loopK_normal, loopK_exit, loopK_ret]
                clear hBe e8 ev
                (repeat (refine And.intro ?_ ?_; focus (((repeat' apply And.intro) <;> first | exact rowsOf_w _ | omega | (simp only [List.length_append, rowsOf_len, List.length_cons, List.length_nil, marks_len, List.length_take, List.length_drop, List.length_set]; omega) | exact ⟨_, rfl⟩ | (refine ⟨_, rfl, ?_⟩; omega) | (refine ⟨_, rfl, ?_⟩; simp only [List.length_append, rowsOf_len, List.length_cons, List.length_nil, marks_len, List.length_take, List.length_drop, List.length_set]; omega) | kernel_rfl | (simp; done)); done)))
                exact ⟨_, rfl, rfl, rfl⟩
              · have d2 : (pickV xs (Z + 1 + e) 4 = 2) = False := eq_false y2
                have db2 : (pickV xs (Z + 1 + e) 4 == 2) = false := by simp [y2]
                have ev : swF xs ⟨⟨f, t, sq, 0, 0, fi, false, la, false, [], dd⟩, Z + 1⟩ n = ⟨⟨f, t, sq, 0, 0, fi, false, la, true, [], List.replicate (pickV xs (Z + 1 + e + 1) 14).toNat 0⟩, Z + 1 + e + 1 + 1⟩ := by rw [swF, if_pos ho, swE, ← he, if_neg y0, if_neg y1, if_neg y2]
                rw [e8, ev]
                simp (maxSteps := 3000000) only [Try.f35, rdsg, g_pick, g_odd, g_bytes, g_seq, bytesOf_rows, rowsOf_len, rgRows_len, repl0, hN', hq', hQ', hfb, hlb, hf, ht, hsq, hdd, he', w1, w2, c4, hZ', c8, co, d0, db0, d1, db1, d2, db2, hx, ↓reduceIte, Bool.false_eq_true, doneL_ret, doneL_normal, tYs, evL, implies_true, oMin, x_max, oMax, oCopy, oBin, oUn, oLoadKid, oStoreTree, oField, oExtract, oNil, oSliceQ, oSliceE, x_appendZ, oAppendZ, oSliceEnd, endMode, oLoadRow, takeCells, TS.atRow, TS.ex, treeMode, AV.isOwn, TK.isSl, nilTk, nilsB, oLenQ, oLen, nodupB, treeOf, kidAbs, kidRows, TK.isCell, D.toL, oLoad, oStore, oMake, oIndexAddr, ↓reduceIte, reduceCtorEq, Nat.reduceBEq, Nat.reduceAdd, Nat.reduceMul, Nat.reduceLT, Nat.reduceSub, Nat.reduceLeDiff, Nat.reduceEqDiff, Nat.reduceBneDiff, Int.reduceToNat, decide_eq_true_eq, decide_eq_false_iff_not, beq_iff_eq, Int.toNat_natCast, loopK_normal, loopK_exit, loopK_ret]
                clear hBe e8 ev
                (repeat (refine And.intro ?_ ?_; focus (((repeat' apply And.intro) <;> first | exact rowsOf_w _ | omega | (simp only [List.length_append, rowsOf_len, List.length_cons, List.length_nil, marks_len, List.length_take, List.length_drop, List.length_set]; omega) | exact ⟨_, rfl⟩ | (refine ⟨_, rfl, ?_⟩; omega) | (refine ⟨_, rfl, ?_⟩; simp only [List.length_append, rowsOf_len, List.length_cons, List.length_nil, marks_len, List.length_take, List.length_drop, List.length_set]; omega) | kernel_rfl | (simp; done)); done)))
                exact ⟨_, rfl, rfl, rfl⟩
        · have co : (decide (0 < n) && pickV xs (Z + 1) n == n - 1) = false := by simpa using ho
          have ev : swF xs ⟨⟨f, t, sq, 0, 0, fi, false, la, false, [], dd⟩, Z + 1⟩ n = ⟨⟨f, t, sq, 0, 0, fi, false, la, false, [], dd⟩, Z + 1 + e⟩ := by rw [swF, if_neg ho, ← he]
          rw [e8, ev]
          simp (maxSteps := 3000000) only [Try.f35, rdsg, g_pick, g_odd, g_bytes, g_seq, bytesOf_rows, rowsOf_len, rgRows_len, repl0, hN', hq', hQ', hfb, hlb, hf, ht, hsq, hdd, he', w1, w2, c4, hZ', c8, co, hx, ↓reduceIte, Bool.false_eq_true, doneL_ret, doneL_normal, tYs, evL, implies_true, oMin, x_max, oMax, oCopy, oBin, oUn, oLoadKid, oStoreTree, oField, oExtract, oNil, oSliceQ, oSliceE, x_appendZ, oAppendZ, oSliceEnd, endMode, oLoadRow, takeCells, TS.atRow, TS.ex, treeMode, AV.isOwn, TK.isSl, nilTk, nilsB, oLenQ, oLen, nodupB, treeOf, kidAbs, kidRows, TK.isCell, D.toL, oLoad, oStore, oMake, oIndexAddr, ↓reduceIte, reduceCtorEq, Nat.reduceBEq, Nat.reduceAdd, Nat.reduceMul, Nat.reduceLT, Nat.reduceSub, Nat.reduceLeDiff, Nat.reduceEqDiff, Nat.reduceBneDiff, Int.reduceToNat, decide_eq_true_eq, decide_eq_false_iff_not, beq_iff_eq, Int.toNat_natCast, loopK_normal, loopK_exit, loopK_ret]
          clear hBe e8 ev
          (repeat (refine And.intro ?_ ?_; focus (((repeat' apply And.intro) <;> first | exact rowsOf_w _ | omega | (simp only [List.length_append, rowsOf_len, List.length_cons, List.length_nil, marks_len, List.length_take, List.length_drop, List.length_set]; omega) | exact ⟨_, rfl⟩ | (refine ⟨_, rfl, ?_⟩; omega) | (refine ⟨_, rfl, ?_⟩; simp only [List.length_append, rowsOf_len, List.length_cons, List.length_nil, marks_len, List.length_take, List.length_drop, List.length_set]; omega) | kernel_rfl | (simp; done)); done)))
          exact ⟨_, rfl, rfl, rfl⟩
  · cases hg
end Go.Proofs.Ytnlhfjdkhkmaeaa
