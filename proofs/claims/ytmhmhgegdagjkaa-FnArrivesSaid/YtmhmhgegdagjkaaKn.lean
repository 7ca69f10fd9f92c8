import Derived.Test.YtmhmhgegdagjkaaKm
set_option linter.unusedVariables false
set_option linter.unusedSimpArgs false
namespace Go.Proofs.Ytmhmhgegdagjkaa
open Go.RowKit
theorem hear_first0 {C : List Pk} (h : wholeB C 15 = true) (h2 : 2 ≤ C.length) {i : Nat} (hi : i < C.length) : phF [] C[i] 0 = [⟨sel C fun j => j == i, 15⟩] ∧ phB [] C[i] 0 = false ∧ phS [] C[i] 0 = false := by
  have hok := (partC h).1 _ (List.getElem_mem hi)
  have ha := C_alone h h2 hi
  have hp : phOk [] C[i] 0 = true := by rw [phOk, hok]; rfl
  rw [phF, phB, phS, hp, ha, sel_one hi]
  exact ⟨rfl, rfl, rfl⟩
theorem hear_next0 {C : List Pk} (h : wholeB C 15 = true) (h2 : 2 ≤ C.length) {f : Nat → Bool} (hn : 0 < (sel C f).length) {i : Nat} (hi : i < C.length) :
    phF [⟨sel C f, 15⟩] C[i] 0 = (if wholeB (sel C fun j => f j || j == i) 15 = true then [] else [⟨sel C fun j => f j || j == i, 15⟩]) ∧ phB [⟨sel C f, 15⟩] C[i] 0 = wholeB (sel C fun j => f j || j == i) 15 ∧ phS [⟨sel C f, 15⟩] C[i] 0 = false ∧ phP [⟨sel C f, 15⟩] C[i] 0 = wholeV (sel C fun j => f j || j == i) 15 := by
  have hok := (partC h).1 _ (List.getElem_mem hi)
  have ha := C_alone h h2 hi
  have hpart := sel_part h hn
  have hs : of1 ⟨sel C f, 15⟩ C[i] = true := by
    show same4 ((sel C f).getD 0 pk0) C[i] = true
    rw [pk_get hn]
    obtain ⟨j, hj, _, e⟩ := sel_mem (List.getElem_mem hn)
    rw [e]
    exact C_same h hj hi
  have hp : phOk [⟨sel C f, 15⟩] C[i] 0 = true := by
    rw [phOk, hok, ptsB, ptsK]
    show (decide (1 ≤ 3) && (ptStep [⟨sel C f, 15⟩] 0 && true) && true && inZ 0 0 999985) = true
    have : ptStep [⟨sel C f, 15⟩] 0 = true := by
      show (partB (sel C f) 15 && decide (findP [] _ = 0)) = true
      rw [hpart]; rfl
    rw [this]; rfl
  have hl : liveP [⟨sel C f, 15⟩] 0 = [⟨sel C f, 15⟩] := rfl
  have hf : findP [⟨sel C f, 15⟩] C[i] = 0 := by rw [findP, if_pos hs]
  have hput := sel_put h hi hn
  have hL : hitL [⟨sel C f, 15⟩] 0 C[i] = (if wholeB (sel C fun j => f j || j == i) 15 = true then [] else [⟨sel C fun j => f j || j == i, 15⟩]) := by
    show (match putO (sel C f) 15 C[i] with | none => _ | some r => _) = _
    rw [hput]; rfl
  have hB : hitB [⟨sel C f, 15⟩] 0 C[i] = wholeB (sel C fun j => f j || j == i) 15 := by
    show (match putO (sel C f) 15 C[i] with | none => _ | some r => _) = _
    rw [hput]; rfl
  have hP : hitP [⟨sel C f, 15⟩] 0 C[i] = wholeV (sel C fun j => f j || j == i) 15 := by
    show (match putO (sel C f) 15 C[i] with | none => _ | some r => _) = _
    rw [hput]; rfl
  rw [phF, phB, phS, phP, hp, ha, hl, hf, hL, hB, hP]
  refine ⟨rfl, ?_, rfl, rfl⟩
  simp
theorem hear_alone0 {x : Pk} (hok : x.ok = true) (ha : x.a = 0) (hm : x.m = false) : phF [] x 0 = [] ∧ phB [] x 0 = true ∧ phS [] x 0 = false ∧ phP [] x 0 = x := by
  have hp : phOk [] x 0 = true := by rw [phOk, hok]; rfl
  have hal : alone x = true := by rw [alone, ha, hm]; rfl
  rw [phF, phB, phS, phP, hp, hal]
  exact ⟨rfl, rfl, rfl, rfl⟩
def selN (C : List Pk) (k : Nat) : List Pk := sel C fun j => decide (j < k)
theorem selN_all (C : List Pk) : selN C C.length = C := sel_all fun i hi => decide_eq_true hi
theorem selN_succ (C : List Pk) (k : Nat) : (sel C fun j => decide (j < k) || j == k) = selN C (k + 1) := by
  apply sel_congr
  intro i _
  rw [Bool.eq_iff_iff]
  simp only [Bool.or_eq_true, decide_eq_true_eq, beq_iff_eq]
  omega
theorem selN_one {C : List Pk} : (sel C fun j => j == 0) = selN C 1 := by
  apply sel_congr
  intro i _
  rw [Bool.eq_iff_iff]
  simp only [decide_eq_true_eq, beq_iff_eq]
  omega
def orderP (C : List Pk) (k : Nat) : List Pt := if k = 0 then [] else [⟨selN C k, 15⟩]
theorem order_step {C : List Pk} (h : wholeB C 15 = true) {k : Nat} (hk : k + 1 < C.length) :
    phF (orderP C k) (C[k]'(by omega)) 0 = orderP C (k + 1) ∧ phB (orderP C k) (C[k]'(by omega)) 0 = false ∧ phS (orderP C k) (C[k]'(by omega)) 0 = false := by
  have hk' : k < C.length := by omega
  rw [orderP, orderP, if_neg (Nat.succ_ne_zero k)]
  by_cases h0 : k = 0
  · subst h0
    rw [if_pos rfl]
    obtain ⟨a1, a2, a3⟩ := hear_first0 h (by omega) hk'
    rw [selN_one] at a1
    exact ⟨a1, a2, a3⟩
  · rw [if_neg h0]
    have hn : 0 < (selN C k).length := sel_has (i := 0) (by omega) (by simp; omega)
    obtain ⟨a1, a2, a3, a4⟩ := hear_next0 h (by omega) hn hk'
    have hnw : wholeB (selN C (k + 1)) 15 = false := sel_not h (i := k + 1) hk (by simp)
    rw [selN_succ, hnw] at a1 a2
    exact ⟨a1, a2, a3⟩
theorem order_last {C : List Pk} (h : wholeB C 15 = true) (h0 : 0 < C.length) :
    phF (orderP C (C.length - 1)) (C[C.length - 1]'(by omega)) 0 = [] ∧ phB (orderP C (C.length - 1)) (C[C.length - 1]'(by omega)) 0 = true ∧ phS (orderP C (C.length - 1)) (C[C.length - 1]'(by omega)) 0 = false ∧ (phP (orderP C (C.length - 1)) (C[C.length - 1]'(by omega)) 0).d = joinD C := by
  by_cases h1 : C.length = 1
  · obtain ⟨x, rfl⟩ : ∃ x, C = [x] := by
      match C, h1 with
      | [x], _ => exact ⟨x, rfl⟩
    have hp := whole_parts h
    have hok := (partC h).1 x (List.mem_singleton.2 rfl)
    have ha : x.a = 0 := by
      have := zero_at h0 hp.2.1
      simpa using this
    have hm : x.m = false := by
      have := more_last h0
      rw [hp.2.2] at this
      simpa using this.symm
    obtain ⟨a1, a2, a3, a4⟩ := hear_alone0 hok ha hm
    have e : orderP [x] ([x].length - 1) = [] := rfl
    have e2 : [x][[x].length - 1] = x := rfl
    rw [e, e2]
    exact ⟨a1, a2, a3, by rw [a4]; simp [joinD]⟩
  · have hk : C.length - 1 < C.length := by omega
    rw [orderP, if_neg (by omega)]
    have hn : 0 < (selN C (C.length - 1)).length := sel_has (i := 0) (by omega) (by simp; omega)
    obtain ⟨a1, a2, a3, a4⟩ := hear_next0 h (by omega) hn hk
    rw [selN_succ, Nat.sub_add_cancel (by omega), selN_all, h] at a1 a2
    rw [selN_succ, Nat.sub_add_cancel (by omega), selN_all] at a4
    refine ⟨a1, a2, a3, ?_⟩
    have e : phP [⟨selN C (C.length - 1), 15⟩] C[C.length - 1] 0 = wholeV C 15 := a4
    rw [e, wholeV, if_pos h]
def wkV (net : List St) (to : Int) (i : Nat) : Nat → Nat × Int
  | 0 => (i, 48)
  | k + 1 => match nextV net to (wkV net to i k).1 with
    | none => wkV net to i k
    | some (n, m) => (n, min (wkV net to i k).2 m)
def withMin (room : Int) : Option Int → Int
  | none => 0
  | some R => min room R
def wkOn (net : List St) (to : Int) (i k : Nat) : Prop := ∀ j, j < k → (net.getD (wkV net to i j).1 st0).a ≠ to ∧ ∃ n m, nextV net to (wkV net to i j).1 = some (n, m)
theorem wk_inv {net : List St} (hn : netB net = true) {to : Int} {i : Nat} (hi : i < net.length) : ∀ k, k ≤ net.length + 1 → wkOn net to i k →
    (wkV net to i k).1 < net.length ∧ (1 ≤ (wkV net to i k).2 ∧ (wkV net to i k).2 ≤ 48) ∧ roomV net i to = withMin (wkV net to i k).2 (pm net to (net.length + 1 - k) (wkV net to i k).1)
  | 0, _, _ => by
    refine ⟨hi, by simp only [wkV]; omega, ?_⟩
    rw [roomV]
    show _ = withMin 48 (pm net to (net.length + 1) i)
    cases hp : pm net to (net.length + 1) i with
    | none => rfl
    | some R =>
      have := pm_bd hn hp
      simp only [Option.getD_some, withMin]
      omega
  | k + 1, hk, h => by
    obtain ⟨a1, a2, a3⟩ := wk_inv hn hi k (by omega) fun j hj => h j (by omega)
    obtain ⟨b1, n, m, b2⟩ := h k (Nat.lt_succ_self k)
    have e : wkV net to i (k + 1) = (n, min (wkV net to i k).2 m) := by rw [wkV, b2]
    obtain ⟨r, hl, hs, rfl⟩ := next_some b2
    have hm := (net_routes hn hl).2.1
    rw [e]
    refine ⟨(seek_lt hs).1, by dsimp only; omega, ?_⟩
    rw [a3]
    have e2 : net.length + 1 - k = (net.length + 1 - (k + 1)) + 1 := by omega
    rw [e2, pm, if_neg b1, b2]
    dsimp only
    cases hp : pm net to (net.length + 1 - (k + 1)) n with
    | none => rfl
    | some R => simp only [withMin]; omega
theorem wk_here {net : List St} (hn : netB net = true) {to : Int} {i : Nat} (hi : i < net.length) {k : Nat} (hk : k ≤ net.length) (h : wkOn net to i k) (ht : (net.getD (wkV net to i k).1 st0).a = to) : roomV net i to = (wkV net to i k).2 := by
  obtain ⟨a1, a2, a3⟩ := wk_inv hn hi k (by omega) h
  have e2 : net.length + 1 - k = (net.length - k) + 1 := by omega
  rw [a3, e2, pm_here _ ht]
  simp only [withMin]; omega
theorem wk_none {net : List St} (hn : netB net = true) {to : Int} {i : Nat} (hi : i < net.length) {k : Nat} (hk : k ≤ net.length) (h : wkOn net to i k) (ht : (net.getD (wkV net to i k).1 st0).a ≠ to) (hx : nextV net to (wkV net to i k).1 = none) : roomV net i to = 0 := by
  obtain ⟨a1, a2, a3⟩ := wk_inv hn hi k (by omega) h
  have e2 : net.length + 1 - k = (net.length - k) + 1 := by omega
  rw [a3, e2, pm, if_neg ht, hx]
  rfl
theorem wk_end {net : List St} (hn : netB net = true) {to : Int} {i : Nat} (hi : i < net.length) (h : wkOn net to i (net.length + 1)) : roomV net i to = 0 := by
  obtain ⟨a1, a2, a3⟩ := wk_inv hn hi _ (Nat.le_refl _) h
  rw [a3, Nat.sub_self]
  rfl
theorem wk_next {net : List St} {to : Int} {i k : Nat} (h : wkOn net to i k) (ht : (net.getD (wkV net to i k).1 st0).a ≠ to) {n : Nat} {m : Int} (hx : nextV net to (wkV net to i k).1 = some (n, m)) : wkOn net to i (k + 1) ∧ wkV net to i (k + 1) = (n, min (wkV net to i k).2 m) := by
  refine ⟨fun j hj => ?_, by rw [wkV, hx]⟩
  by_cases hjk : j = k
  · rw [hjk]; exact ⟨ht, n, m, hx⟩
  · exact h j (by omega)
end Go.Proofs.Ytmhmhgegdagjkaa
