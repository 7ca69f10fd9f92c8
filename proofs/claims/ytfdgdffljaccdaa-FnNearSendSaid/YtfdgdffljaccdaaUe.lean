import Derived.Test.YtfdgdffljaccdaaUd
namespace Go.Proofs.Ytfdgdffljaccdaa
open Go.RowKit
set_option linter.unusedSimpArgs false
set_option linter.unusedVariables false

/-! mathematics of NearSend and NearHear -/
theorem sOk_no {ks : List KE} {hs : List HE} {a : Int} {n : Nat} {now : Int} (h : nOkB ks hs = false ∨ a > 65535 ∨ now < 0) : sOk ks hs a n now = false := by
  rw [sOk]
  rcases h with h | h | h
  · rw [h, Bool.false_and]
  · rw [decide_eq_false (by omega), Bool.and_false]
  · rw [decide_eq_false (by omega), Bool.and_false]
theorem sOk_yes {ks : List KE} {hs : List HE} {a : Int} {n : Nat} {now : Int} (h : nOkB ks hs = true) (h1 : 0 ≤ a ∧ a ≤ 65535) (h2 : n ≤ 64) (h3 : 0 ≤ now ∧ now ≤ 999980) : sOk ks hs a n now = true := by
  rw [sOk, h, decide_eq_true ⟨h1, h2, h3⟩]; rfl
theorem hOkB_mem {hs : List HE} : hOkB hs = true ↔ hs.length ≤ 4 ∧ ∀ h ∈ hs, hOk h = true := by
  rw [hOkB, Bool.and_eq_true, decide_eq_true_eq, List.all_eq_true]
theorem nOkB_and {ks : List KE} {hs : List HE} : nOkB ks hs = true ↔ kOkB ks = true ∧ hOkB hs = true := by rw [nOkB, Bool.and_eq_true]
/-- what is kept after bytes were kept -/
theorem send_kept {ks : List KE} {hs : List HE} {a : Int} {d : List UInt8} {link : Int} (h : nOkB ks hs = true) (h1 : 0 ≤ a ∧ a ≤ 65535) (h2 : d.length ≤ 64) (hl : ¬ 0 ≤ link) :
    ∃ F : List HE, sendH true link hs ⟨a, d⟩ = F ++ [⟨a, d⟩] ∧ F.length ≤ 3 ∧ F.length + 1 = min (hs.length + 1) 4 ∧ nOkB ks (F ++ [⟨a, d⟩]) = true := by
  obtain ⟨hk, hh⟩ := nOkB_and.1 h
  obtain ⟨h4, hall⟩ := hOkB_mem.1 hh
  have he : hOk ⟨a, d⟩ = true := by unfold hOk; exact decide_eq_true ⟨h1, h2⟩
  have key : ∀ F : List HE, F.length ≤ 3 → (∀ x ∈ F, x ∈ hs) → nOkB ks (F ++ [⟨a, d⟩]) = true := fun F hF hm => nOkB_and.2 ⟨hk, hOkB_mem.2 ⟨by rw [List.length_append]; simp; omega, fun x hx => by
    rcases List.mem_append.1 hx with hx | hx
    · exact hall x (hm x hx)
    · rw [List.mem_singleton.1 hx]; exact he⟩⟩
  unfold sendH
  rw [if_pos rfl, if_neg hl]
  by_cases h5 : hs.length < 4
  · rw [if_pos h5]
    exact ⟨hs, rfl, by omega, by omega, key hs (by omega) fun x hx => hx⟩
  · rw [if_neg h5]
    have h6 : hs.length = 4 := by omega
    refine ⟨hs.drop 1, ?_, by rw [List.length_drop]; omega, by rw [List.length_drop]; omega, key _ (by rw [List.length_drop]; omega) fun x hx => List.mem_of_mem_drop hx⟩
    rw [List.take_of_length_le (by rw [List.length_append]; simp; omega), List.drop_append_of_le_length (by omega)]
theorem hRows_last (F : List HE) (e : HE) : (hRows (F ++ [e])).getD F.length [] = [.v (.int .i64 e.a), .l 1 (rowsOfBytes e.d)] := by
  have hl : F.length < (F ++ [e]).length := by simp
  rw [hRows_get _ _ hl, List.getElem_append_right (Nat.le_refl _)]
  simp

theorem rOk_no {ks : List KE} {hs : List HE} {qk ql qa qw now : Int} (h : nOkB ks hs = false ∨ qB qk ql qa qw = false) : rOk ks hs qk ql qa qw now = false := by
  rw [rOk]
  rcases h with h | h <;> rw [h]
  · rw [Bool.false_and]
  · rw [Bool.false_and, Bool.and_false]
theorem rOk_yes {ks : List KE} {hs : List HE} {qk ql qa qw now : Int} (h : nOkB ks hs = true) (h2 : qB qk ql qa qw = true) (h3 : 0 ≤ now ∧ now ≤ 999980) : rOk ks hs qk ql qa qw now = true := by
  rw [rOk, h, h2, decide_eq_true h3]; rfl
theorem kAll_iff {ks : List KE} : kAll ks ↔ (∀ e ∈ ks, eOk e = true) ∧ ks.Pairwise fun x y => x.a ≠ y.a := by
  rw [List.pairwise_iff_getElem]
  constructor
  · intro h
    refine ⟨fun e he => ?_, fun i j hi hj hij => (h j hj).2 i hij⟩
    obtain ⟨i, hi, rfl⟩ := List.getElem_of_mem he
    exact (h i hi).1
  · rintro ⟨h1, h2⟩ i hi
    exact ⟨h1 _ (List.getElem_mem hi), fun j hj => h2 j i (by omega) hi hj⟩
theorem sentOf_nil {hs : List HE} {a : Int} (h : (hs.any fun x => x.a == a) = false) : sentOf hs a = [] := by
  rw [sentOf, List.map_eq_nil_iff, List.filter_eq_nil_iff]
  intro x hx
  rw [List.any_eq_false] at h
  exact h x hx
theorem sentOf_out_same (hs : List HE) (a : Int) : sentOf (hOut hs a) a = [] := by
  rw [sentOf, hOut, List.filter_filter, List.map_eq_nil_iff, List.filter_eq_nil_iff]
  intro x _
  simp
theorem sentOf_out_other (hs : List HE) {a b : Int} (h : b ≠ a) : sentOf (hOut hs a) b = sentOf hs b := by
  rw [sentOf, sentOf, hOut, List.filter_filter]
  congr 1
  refine List.filter_congr fun x _ => ?_
  by_cases hx : x.a = b
  · simp [hx, h]
  · simp [hx]
theorem wantB_no {ks : List KE} {hs : List HE} {own qa qw : Int} (h : wantB ks hs own qa qw = false) : sentOf hs qa = [] := by
  rw [wantB, Bool.or_eq_false_iff] at h
  exact sentOf_nil h.2
/-- what is known and kept after a query was heard -/
theorem hear_kept {ks : List KE} {hs : List HE} {ql qa now : Int} (h : nOkB ks hs = true) (ha : 0 ≤ qa ∧ qa ≤ 65535) (hl : 0 ≤ ql ∧ ql ≤ 254) (ht : 0 ≤ now ∧ now ≤ 999980) :
    (hearK true true ks ⟨qa, ql, now + 20⟩).length ≤ 4 ∧ nOkB (hearK true true ks ⟨qa, ql, now + 20⟩) (hOut hs qa) = true ∧ nfV (hearK true true ks ⟨qa, ql, now + 20⟩) (hOut hs qa) qa now = ql := by
  obtain ⟨hk, hh⟩ := nOkB_and.1 h
  obtain ⟨k4, kall⟩ := kOkB_iff.1 hk
  obtain ⟨k1, k2⟩ := kAll_iff.1 kall
  obtain ⟨h4, hall⟩ := hOkB_mem.1 hh
  have hho : hOkB (hOut hs qa) = true := hOkB_mem.2 ⟨Nat.le_trans (List.length_filter_le _ _) h4, fun x hx => hall x (List.mem_filter.1 hx).1⟩
  have he : eOk ⟨qa, ql, now + 20⟩ = true := by unfold eOk; exact decide_eq_true ⟨ha, hl, by dsimp only; omega, by dsimp only; omega⟩
  have hlen : (kOut ks qa).length ≤ 4 := Nat.le_trans (List.length_filter_le _ _) k4
  have key : ∀ F : List KE, F.length ≤ 3 → F.Sublist (kOut ks qa) → (F ++ [(⟨qa, ql, now + 20⟩ : KE)]).length ≤ 4 ∧ nOkB (F ++ [⟨qa, ql, now + 20⟩]) (hOut hs qa) = true ∧ nfV (F ++ [⟨qa, ql, now + 20⟩]) (hOut hs qa) qa now = ql := by
    intro F hF hsub
    have hmem : ∀ x ∈ F, x ∈ ks ∧ x.a ≠ qa := fun x hx => by
      have := hsub.subset hx
      rw [kOut, List.mem_filter] at this
      exact ⟨this.1, by simpa using this.2⟩
    have hA : kAll (F ++ [⟨qa, ql, now + 20⟩]) := by
      refine kAll_iff.2 ⟨fun x hx => ?_, ?_⟩
      · rcases List.mem_append.1 hx with hx | hx
        · exact k1 x (hmem x hx).1
        · rw [List.mem_singleton.1 hx]; exact he
      · rw [List.pairwise_append]
        refine ⟨(k2.filter _).sublist hsub, List.pairwise_singleton _ _, fun x hx y hy => ?_⟩
        rw [List.mem_singleton.1 hy]
        exact (hmem x hx).2
    have hL : (F ++ [(⟨qa, ql, now + 20⟩ : KE)]).length = F.length + 1 := by simp
    have hn : nOkB (F ++ [⟨qa, ql, now + 20⟩]) (hOut hs qa) = true := nOkB_and.2 ⟨kOkB_iff.2 ⟨by omega, hA⟩, hho⟩
    refine ⟨by omega, hn, ?_⟩
    have hi : F.length < (F ++ [(⟨qa, ql, now + 20⟩ : KE)]).length := by omega
    have hg : (F ++ [(⟨qa, ql, now + 20⟩ : KE)])[F.length] = ⟨qa, ql, now + 20⟩ := by
      rw [List.getElem_append_right (Nat.le_refl _)]; simp
    have hat := kAt_eq hA F.length hi
    rw [hg] at hat
    rw [nfV_at F.length hi hn hat (by rw [hg]; dsimp only; omega), hg]
  unfold hearK
  rw [if_pos rfl, if_pos rfl]
  dsimp only
  by_cases h5 : (kOut ks qa).length < 4
  · rw [if_pos h5]
    exact key _ (by omega) (List.Sublist.refl _)
  · rw [if_neg h5]
    rw [List.take_of_length_le (by rw [List.length_append]; simp; omega), List.drop_append_of_le_length (by omega)]
    exact key _ (by rw [List.length_drop]; omega) (List.drop_sublist _ _)
end Go.Proofs.Ytfdgdffljaccdaa
