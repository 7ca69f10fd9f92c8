import Derived.Test.YtloffpgdclbkhaaTv
namespace Go.Proofs.Ytloffpgdclbkhaa
open Go.RowKit
set_option linter.unusedSimpArgs false

/-! a station is drawn, whole or not; the laws of it -/
def nearA (v : NearV) : AV := .agg [.l v.s1 (kRows v.ks), .l v.s2 (hRows v.hs)]
def g_drawNO : PC := fun args => match args with
  | [.l _ rows] => some (∃ xs, rows = rowsOfBytes xs, .agg [.l (nearV ((bytesOfRows rows).take 2000) 0 2).s1 (kRows (nearV ((bytesOfRows rows).take 2000) 0 2).ks), .l (nearV ((bytesOfRows rows).take 2000) 0 2).s2 (hRows (nearV ((bytesOfRows rows).take 2000) 0 2).hs)], [])
  | _ => none
def g_drawNF : PC := fun args => match args with
  | [.l _ rows] => some (∃ xs, rows = rowsOfBytes xs, .tup [.agg [.l (nearV ((bytesOfRows rows).take 2000) 0 15).s1 (kRows (nearV ((bytesOfRows rows).take 2000) 0 15).ks), .l (nearV ((bytesOfRows rows).take 2000) 0 15).s2 (hRows (nearV ((bytesOfRows rows).take 2000) 0 15).hs)],
      .v (.int .i64 (pickV ((bytesOfRows rows).take 2000) (nearV ((bytesOfRows rows).take 2000) 0 15).p 6)), .v (.int .i64 (pickV ((bytesOfRows rows).take 2000) ((nearV ((bytesOfRows rows).take 2000) 0 15).p + 1) 50))], [])
  | _ => none
theorem nOkB_h (ks : List KE) : nOkB ks [] = kOkB ks := by simp [nOkB, hOkB]
theorem nOkB_0 (hs : List HE) : nOkB [] hs = hOkB hs := by simp [nOkB, kOkB]
theorem hOkB_0 : hOkB [] = true := rfl
theorem kOkB_0 : kOkB [] = true := rfl
theorem ksOf_0 : ksOf [] = [] := rfl
theorem hsOf_0 : hsOf [] = [] := rfl
theorem nfV_earlier {ks : List KE} {hs : List HE} {a now : Int} (h : 0 ≤ nfV ks hs a now) : nfV ks hs a (now - 1) = nfV ks hs a now := by
  unfold nfV at h ⊢
  by_cases hc : nOkB ks hs = true ∧ 0 ≤ kAt ks a ∧ now < (ks.getD (kAt ks a).toNat ⟨0, 0, 0⟩).u
  · rw [if_pos hc, if_pos ⟨hc.1, hc.2.1, by omega⟩]
  · rw [if_neg hc] at h
    omega
theorem nfV_late (ks : List KE) (hs : List HE) (a : Int) : nfV ks hs a 1000001 = -1 := by
  refine nfV_no fun ⟨h1, h2, h3⟩ => ?_
  obtain ⟨k1, k2, k3, k4⟩ := nOkB_k h1
  rcases kAt_spec ks a with ⟨e, _⟩ | ⟨j, hj, e, _, _⟩
  · omega
  · rw [e, Int.toNat_natCast, getD_get _ hj] at h3
    have := (k2 j hj).1
    simp only [eOk, decide_eq_true_eq] at this
    omega
end Go.Proofs.Ytloffpgdclbkhaa
