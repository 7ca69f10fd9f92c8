import Derived.Test.YtegffkmakkccaaaKf
set_option linter.unusedVariables false
set_option linter.unusedSimpArgs false
namespace Go.Proofs.Ytegffkmakkccaaa
open Go.RowKit
set_option linter.unusedSimpArgs false
def trS (i : Nat) (p : Pk) : TrS := ⟨[(i, p)], [], []⟩
theorem tr_in {net : List St} {p : Pk} (hp : p.ok = true) {i : Nat} (hi : i < net.length) : ∀ k, ∀ x ∈ (tvK net (trS i p) k).row, x.1 < net.length ∧ x.2.ok = true
  | 0, x, hx => by
    rw [tvK, trS, List.mem_singleton] at hx
    rw [hx]; exact ⟨hi, hp⟩
  | k + 1, x, hx => by
    by_cases hk : k < (tvK net (trS i p) k).row.length
    · have hm := tr_in hp hi k _ (List.getElem_mem hk)
      rw [tvK_step hk] at hx
      rcases tv_cases net (tvK net (trS i p) k) (net.getD ((tvK net (trS i p) k).row[k]).1 st0) ((tvK net (trS i p) k).row[k]).2 with c | ⟨ok, ⟨ht, c⟩ | ⟨k', n, hb, c⟩ | ⟨r, n, ht, hh, hl, hc, hs, c⟩⟩
      · rw [c] at hx; exact tr_in hp hi k x hx
      · rw [c] at hx; exact tr_in hp hi k x hx
      · rw [c] at hx; exact tr_in hp hi k x hx
      · rw [c] at hx
        rcases List.mem_append.1 hx with hx | hx
        · exact tr_in hp hi k x hx
        · obtain ⟨y, hy, rfl⟩ := List.mem_map.1 hx
          exact ⟨(seek_lt hs).1, (cut_mem hc hy).2⟩
    · rw [tvK, List.getElem?_eq_none (by omega)] at hx
      exact tr_in hp hi k x hx
theorem tr_len (net : List St) (S : TrS) : ∀ k, (tvK net S k).arr.length ≤ S.arr.length + k ∧ (tvK net S k).nts.length ≤ S.nts.length + k
  | 0 => ⟨Nat.le_refl _, Nat.le_refl _⟩
  | k + 1 => by
    have ih := tr_len net S k
    by_cases hk : k < (tvK net S k).row.length
    · rw [tvK_step hk]
      rcases tv_cases net (tvK net S k) (net.getD ((tvK net S k).row[k]).1 st0) ((tvK net S k).row[k]).2 with c | ⟨ok, ⟨ht, c⟩ | ⟨k', n, hb, c⟩ | ⟨r, n, ht, hh, hl, hc, hs, c⟩⟩
      · rw [c]; omega
      · rw [c]; simp only [List.length_append, List.length_singleton]; omega
      · rw [c]; simp only [List.length_append, List.length_singleton]; omega
      · rw [c]; dsimp only; omega
    · rw [tvK, List.getElem?_eq_none (by omega)]
      dsimp only; omega
theorem tr_row_le {net : List St} {S : TrS} {k : Nat} (h : k ≤ tvT net S) : (tvK net S k).row.length ≤ tvT net S := by
  obtain ⟨l, e⟩ := tvK_mono net S k (tvT net S - k)
  rw [show k + (tvT net S - k) = tvT net S from by omega] at e
  have h1 := (tvT_end net S).2.1
  rw [e, List.length_append] at h1
  omega
theorem tr_lt {net : List St} {S : TrS} {k : Nat} (h : k ≤ tvT net S) : k < (tvK net S k).row.length ↔ k < tvT net S :=
  ⟨fun h1 => Nat.lt_of_lt_of_le h1 (tr_row_le h), (tvT_end net S).2.2 k⟩
theorem tr_bd (net : List St) (i : Nat) {p : Pk} (hp : p.ok = true) : tvT net (trS i p) ≤ 12288 := by
  refine Nat.le_trans (tvT_end net (trS i p)).1 ?_
  have h := ok_h hp
  have e : todo (sndL (trS i p).row) = todoOf p := by simp [todo, sndL, trS]
  rw [e, todoOf]
  have h1 : max 1 p.d.length ≤ 48 := by omega
  have h2 : p.h.toNat + 1 ≤ 256 := by omega
  exact Nat.mul_le_mul h1 h2
def trB (net : List St) (n : Int) (p : Pk) : Bool := inNet net n && p.ok
def trV (net : List St) (n : Int) (p : Pk) : TrS := if trB net n p = true then tvK net (trS n.toNat p) (tvT net (trS n.toNat p)) else ⟨[], [], []⟩
def trN (net : List St) (n : Int) (p : Pk) : Nat := if trB net n p = true then tvT net (trS n.toNat p) else 0
theorem tr_no {net : List St} {n : Int} {p : Pk} (h : trB net n p = false) : trV net n p = ⟨[], [], []⟩ ∧ trN net n p = 0 := ⟨if_neg (by rw [h]; decide), if_neg (by rw [h]; decide)⟩
theorem tr_yes {net : List St} {n : Int} {p : Pk} (h : trB net n p = true) : trV net n p = tvK net (trS n.toNat p) (tvT net (trS n.toNat p)) ∧ trN net n p = tvT net (trS n.toNat p) := ⟨if_pos h, if_pos h⟩
theorem one_here (net : List St) (R : List (Nat × Pk)) (A T : List Pk) {d : Dn} (h : d.k = 1) : tvOne net ⟨R, A, T⟩ d = ⟨R, A ++ d.ps, T⟩ := if_pos h
theorem one_note (net : List St) (R : List (Nat × Pk)) (A T : List Pk) {d : Dn} (h1 : ¬ d.k = 1) (h : d.k = 3) : tvOne net ⟨R, A, T⟩ d = ⟨R, A, T ++ d.ps⟩ := by rw [tvOne, if_neg h1, if_pos h]
theorem one_none (net : List St) (R : List (Nat × Pk)) (A T : List Pk) {d : Dn} (h1 : ¬ d.k = 1) (h3 : ¬ d.k = 3) (h : seek net d.v = none) : tvOne net ⟨R, A, T⟩ d = ⟨R, A, T⟩ := by rw [tvOne, if_neg h1, if_neg h3, h]
theorem one_on (net : List St) (R : List (Nat × Pk)) (A T : List Pk) {d : Dn} (h1 : ¬ d.k = 1) (h3 : ¬ d.k = 3) {n : Nat} (h : seek net d.v = some n) : tvOne net ⟨R, A, T⟩ d = ⟨R ++ d.ps.map fun q => (n, q), A, T⟩ := by rw [tvOne, if_neg h1, if_neg h3, h]
theorem fw_len (s : St) (p : Pk) : (fwV s p).ps.length ≤ 48 := by
  rcases fw_cases s p with e | ⟨hok, ⟨ht, e⟩ | ⟨k, n, hb, e⟩ | ⟨r, ht, hh, hl, hc, e⟩⟩
  · rw [e]; exact Nat.zero_le _
  · rw [e]; show 1 ≤ 48; omega
  · rw [e]; show 1 ≤ 48; omega
  · rw [e]
    show (cutL (lessH p) r.m).length ≤ 48
    have h1 := cut_cases hc
    have hd : p.d.length ≤ 48 := (ok_h hok.2).2
    obtain ⟨a1, a2, ⟨a3, e⟩ | ⟨a3, a4, a5, e⟩⟩ := h1
    · rw [e]; show 1 ≤ 48; omega
    · rw [e, piecesK_len]
      exact Nat.le_trans (pieceN_le (by omega)) hd
def g_travelD : PC := fun args => match args with
  | [.l _ rn', .v (.int .i64 n), .agg [.v (.int .i64 f), .v (.int .i64 t), .v (.int .i64 p), .v (.int .i64 h), .v (.int .i64 i), .v (.int .i64 a), .v (.bool m), .v (.bool u), .l _ rows]] => some ((∃ l, rn' = stRows l ∧ sMid l) ∧ ∃ xs, rows = rowsOfBytes xs ∧ xs.length ≤ 1048576, .agg [.l 9 (pRows (trV (stsOf rn') n ⟨f, t, p, h, i, a, m, u, bytesOfRows rows⟩).arr), .l 9 (pRows (trV (stsOf rn') n ⟨f, t, p, h, i, a, m, u, bytesOfRows rows⟩).nts), .v (.int .i64 (trN (stsOf rn') n ⟨f, t, p, h, i, a, m, u, bytesOfRows rows⟩ : Int))], [])
  | _ => none
end Go.Proofs.Ytegffkmakkccaaa
