import Derived.Test.YtoiieccdbldfiaaVc
import Derived.Test.YtoiieccdbldfiaaMath3
namespace Go.Proofs.Ytoiieccdbldfiaa
open Go.RowKit
set_option linter.unusedSimpArgs false

/-! mathematics of packets -/
theorem fits_ten (x0 x1 x2 x3 x4 x5 x6 x7 x8 x9 : UInt8) (s : Nat) (hs : s ≤ 65535) : fits [x0, x1, x2, x3, x4, x5, x6, x7, x8, x9] (s : Int) = true ↔ (s + 256 * (x0.toNat + x2.toNat + x4.toNat + x6.toNat + x8.toNat) + (x1.toNat + x3.toNat + x5.toNat + x7.toNat + x9.toNat)) % 65535 = 0 := by
  have h := sumOf_mod [x0, x1, x2, x3, x4, x5, x6, x7, x8, x9]
  have e : pk [x0, x1, x2, x3, x4, x5, x6, x7, x8, x9] [x0, x1, x2, x3, x4, x5, x6, x7, x8, x9].length = 256 * x0.toNat + x1.toNat + (256 * x2.toNat + x3.toNat + (256 * x4.toNat + x5.toNat + (256 * x6.toNat + x7.toNat + (256 * x8.toNat + x9.toNat)))) := by
    show pk (x0 :: x1 :: _) (8 + 2) = _
    rw [pk_cons2]
    show _ + pk (x2 :: x3 :: _) (6 + 2) = _
    rw [pk_cons2]
    show _ + (_ + pk (x4 :: x5 :: _) (4 + 2)) = _
    rw [pk_cons2]
    show _ + (_ + (_ + pk (x6 :: x7 :: _) (2 + 2))) = _
    rw [pk_cons2]
    show _ + (_ + (_ + (_ + pk (x8 :: x9 :: _) (0 + 2)))) = _
    rw [pk_cons2]
    rfl
  rw [e] at h
  unfold fits
  rw [decide_eq_true_eq, h]
  omega
theorem pf_shape {ys : List UInt8} (h : 12 ≤ ys.length) : ∃ x0 x1 x2 x3 x4 x5 x6 x7 x8 x9 xa xb r, ys = x0 :: x1 :: x2 :: x3 :: x4 :: x5 :: x6 :: x7 :: x8 :: x9 :: xa :: xb :: r := by
  match ys, h with
  | x0 :: x1 :: x2 :: x3 :: x4 :: x5 :: x6 :: x7 :: x8 :: x9 :: xa :: xb :: r, _ => exact ⟨_, _, _, _, _, _, _, _, _, _, _, _, _, rfl⟩
theorem pf_iff (x0 x1 x2 x3 x4 x5 x6 x7 x8 x9 xa xb : UInt8) (r : List UInt8) : pfOk (x0 :: x1 :: x2 :: x3 :: x4 :: x5 :: x6 :: x7 :: x8 :: x9 :: xa :: xb :: r) = true ↔
    (r.length ≤ 48 ∧ x9.toNat = r.length ∧ x8.toNat ≤ 3 ∧ (256 * xa.toNat + xb.toNat + 256 * (x0.toNat + x2.toNat + x4.toNat + x6.toNat + x8.toNat) + (x1.toNat + x3.toNat + x5.toNat + x7.toNat + x9.toNat)) % 65535 = 0 ∧ (x8.toNat % 2 = 1 → 0 < r.length) ∧ (2 ≤ x8.toNat → x7.toNat = 0 ∧ x8.toNat % 2 = 0)) := by
  have hl : (x0 :: x1 :: x2 :: x3 :: x4 :: x5 :: x6 :: x7 :: x8 :: x9 :: xa :: xb :: r).length = r.length + 12 := rfl
  have n0 := numAt_two (x0 :: x1 :: x2 :: x3 :: x4 :: x5 :: x6 :: x7 :: x8 :: x9 :: xa :: xb :: r) 0 0 rfl (by rw [hl]; omega)
  have n2 := numAt_two (x0 :: x1 :: x2 :: x3 :: x4 :: x5 :: x6 :: x7 :: x8 :: x9 :: xa :: xb :: r) 2 2 rfl (by rw [hl]; omega)
  have n10 := numAt_two (x0 :: x1 :: x2 :: x3 :: x4 :: x5 :: x6 :: x7 :: x8 :: x9 :: xa :: xb :: r) 10 10 rfl (by rw [hl]; omega)
  have b0 := x0.toNat_lt
  have b1 := x1.toNat_lt
  have b2 := x2.toNat_lt
  have b3 := x3.toNat_lt
  have b4 := x4.toNat_lt
  have b5 := x5.toNat_lt
  have b6 := x6.toNat_lt
  have b7 := x7.toNat_lt
  have ba := xa.toNat_lt
  have bb := xb.toNat_lt
  have hf := fits_ten x0 x1 x2 x3 x4 x5 x6 x7 x8 x9 (256 * xa.toNat + xb.toNat) (by omega)
  have ht : (x0 :: x1 :: x2 :: x3 :: x4 :: x5 :: x6 :: x7 :: x8 :: x9 :: xa :: xb :: r).take 10 = [x0, x1, x2, x3, x4, x5, x6, x7, x8, x9] := rfl
  have hd : (x0 :: x1 :: x2 :: x3 :: x4 :: x5 :: x6 :: x7 :: x8 :: x9 :: xa :: xb :: r).drop 12 = r := rfl
  have e0 : (x0 :: x1 :: x2 :: x3 :: x4 :: x5 :: x6 :: x7 :: x8 :: x9 :: xa :: xb :: r).getD 10 0 = xa := rfl
  have e1 : (x0 :: x1 :: x2 :: x3 :: x4 :: x5 :: x6 :: x7 :: x8 :: x9 :: xa :: xb :: r).getD (10 + 1) 0 = xb := rfl
  rw [e0, e1] at n10
  rw [pfOk, pfHead, pfB, hl, ht, hd, n10, Bool.and_eq_true, Bool.and_eq_true, hf, decide_eq_true_eq, pkB, Bool.and_eq_true, pkR, decide_eq_true_eq, n0, n2]
  show ((12 ≤ r.length + 12 ∧ r.length + 12 ≤ 60 ∧ x9.toNat + 12 = r.length + 12 ∧ x8.toNat ≤ 3) ∧ _) ∧ ((((0 ≤ ((256 * x0.toNat + x1.toNat : Nat) : Int) ∧ ((256 * x0.toNat + x1.toNat : Nat) : Int) ≤ 65535) ∧ 0 ≤ ((256 * x2.toNat + x3.toNat : Nat) : Int) ∧ ((256 * x2.toNat + x3.toNat : Nat) : Int) ≤ 65535) ∧
    (0 ≤ (x4.toNat : Int) ∧ (x4.toNat : Int) ≤ 255) ∧ (0 ≤ (x5.toNat : Int) ∧ (x5.toNat : Int) ≤ 255) ∧ (0 ≤ (x6.toNat : Int) ∧ (x6.toNat : Int) ≤ 255) ∧ (0 ≤ (x7.toNat : Int) ∧ (x7.toNat : Int) ≤ 255) ∧ r.length ≤ 48) ∧ pkM (x7.toNat : Int) (decide (x8.toNat % 2 = 1)) (decide (2 ≤ x8.toNat)) r.length = true) ↔ _
  have hm : pkM (x7.toNat : Int) (decide (x8.toNat % 2 = 1)) (decide (2 ≤ x8.toNat)) r.length = true ↔ ((x8.toNat % 2 = 1 → 0 < r.length) ∧ (2 ≤ x8.toNat → x7.toNat = 0 ∧ x8.toNat % 2 = 0)) := by
    simp only [pkM, Bool.and_eq_true, Bool.or_eq_true, Bool.not_eq_eq_eq_not, Bool.not_true, decide_eq_false_iff_not, decide_eq_true_eq]
    omega
  rw [hm]
  omega
theorem pf_vals {x0 x1 x2 x3 x4 x5 x6 x7 x8 x9 xa xb : UInt8} {r : List UInt8} (h : pfOk (x0 :: x1 :: x2 :: x3 :: x4 :: x5 :: x6 :: x7 :: x8 :: x9 :: xa :: xb :: r) = true) :
    pfF (x0 :: x1 :: x2 :: x3 :: x4 :: x5 :: x6 :: x7 :: x8 :: x9 :: xa :: xb :: r) = ((256 * x0.toNat + x1.toNat : Nat) : Int) ∧ pfT (x0 :: x1 :: x2 :: x3 :: x4 :: x5 :: x6 :: x7 :: x8 :: x9 :: xa :: xb :: r) = ((256 * x2.toNat + x3.toNat : Nat) : Int) ∧
    pfP (x0 :: x1 :: x2 :: x3 :: x4 :: x5 :: x6 :: x7 :: x8 :: x9 :: xa :: xb :: r) = (x4.toNat : Int) ∧ pfH (x0 :: x1 :: x2 :: x3 :: x4 :: x5 :: x6 :: x7 :: x8 :: x9 :: xa :: xb :: r) = (x5.toNat : Int) ∧ pfI (x0 :: x1 :: x2 :: x3 :: x4 :: x5 :: x6 :: x7 :: x8 :: x9 :: xa :: xb :: r) = (x6.toNat : Int) ∧
    pfA (x0 :: x1 :: x2 :: x3 :: x4 :: x5 :: x6 :: x7 :: x8 :: x9 :: xa :: xb :: r) = (x7.toNat : Int) ∧ pfM (x0 :: x1 :: x2 :: x3 :: x4 :: x5 :: x6 :: x7 :: x8 :: x9 :: xa :: xb :: r) = decide (x8.toNat % 2 = 1) ∧ pfU (x0 :: x1 :: x2 :: x3 :: x4 :: x5 :: x6 :: x7 :: x8 :: x9 :: xa :: xb :: r) = decide (2 ≤ x8.toNat) ∧
    pfD (x0 :: x1 :: x2 :: x3 :: x4 :: x5 :: x6 :: x7 :: x8 :: x9 :: xa :: xb :: r) = r := by
  have hl : (x0 :: x1 :: x2 :: x3 :: x4 :: x5 :: x6 :: x7 :: x8 :: x9 :: xa :: xb :: r).length = r.length + 12 := rfl
  unfold pfF pfT pfP pfH pfI pfA pfM pfU pfD
  simp only [h, ↓reduceIte]
  exact ⟨numAt_two _ 0 0 rfl (by rw [hl]; omega), numAt_two _ 2 2 rfl (by rw [hl]; omega), rfl, rfl, rfl, rfl, rfl, rfl, rfl⟩
set_option maxRecDepth 100000 in
theorem xor1 (x : UInt8) : (x ^^^ 1).toNat = x.toNat + 1 ∨ (x ^^^ 1).toNat + 1 = x.toNat := by
  rw [UInt8.toNat_xor]
  have h := x.toNat_lt
  have : ∀ n < 256, n ^^^ (1 : UInt8).toNat = n + 1 ∨ (n ^^^ (1 : UInt8).toNat) + 1 = n := by decide
  exact this _ h
theorem pf_turn {ys : List UInt8} (h : pfOk ys = true) (k : Nat) (hk : k < 12) : pfOk (ys.set k (ys.getD k 0 ^^^ 1)) = false := by
  obtain ⟨x0, x1, x2, x3, x4, x5, x6, x7, x8, x9, xa, xb, r, rfl⟩ := pf_shape (pf_len h).1
  have h1 := (pf_iff ..).1 h
  clear h
  rw [Bool.eq_false_iff]
  intro h2
  have hc : k = 0 ∨ k = 1 ∨ k = 2 ∨ k = 3 ∨ k = 4 ∨ k = 5 ∨ k = 6 ∨ k = 7 ∨ k = 8 ∨ k = 9 ∨ k = 10 ∨ k = 11 := by omega
  rcases hc with rfl | rfl | rfl | rfl | rfl | rfl | rfl | rfl | rfl | rfl | rfl | rfl
  · have h3 := (pf_iff ..).1 h2
    have := xor1 x0
    have e : (x0 :: x1 :: x2 :: x3 :: x4 :: x5 :: x6 :: x7 :: x8 :: x9 :: xa :: xb :: r).getD 0 0 = x0 := rfl
    rw [e] at h3
    omega
  · have h3 := (pf_iff ..).1 h2
    have := xor1 x1
    have e : (x0 :: x1 :: x2 :: x3 :: x4 :: x5 :: x6 :: x7 :: x8 :: x9 :: xa :: xb :: r).getD 1 0 = x1 := rfl
    rw [e] at h3
    omega
  · have h3 := (pf_iff ..).1 h2
    have := xor1 x2
    have e : (x0 :: x1 :: x2 :: x3 :: x4 :: x5 :: x6 :: x7 :: x8 :: x9 :: xa :: xb :: r).getD 2 0 = x2 := rfl
    rw [e] at h3
    omega
  · have h3 := (pf_iff ..).1 h2
    have := xor1 x3
    have e : (x0 :: x1 :: x2 :: x3 :: x4 :: x5 :: x6 :: x7 :: x8 :: x9 :: xa :: xb :: r).getD 3 0 = x3 := rfl
    rw [e] at h3
    omega
  · have h3 := (pf_iff ..).1 h2
    have := xor1 x4
    have e : (x0 :: x1 :: x2 :: x3 :: x4 :: x5 :: x6 :: x7 :: x8 :: x9 :: xa :: xb :: r).getD 4 0 = x4 := rfl
    rw [e] at h3
    omega
  · have h3 := (pf_iff ..).1 h2
    have := xor1 x5
    have e : (x0 :: x1 :: x2 :: x3 :: x4 :: x5 :: x6 :: x7 :: x8 :: x9 :: xa :: xb :: r).getD 5 0 = x5 := rfl
    rw [e] at h3
    omega
  · have h3 := (pf_iff ..).1 h2
    have := xor1 x6
    have e : (x0 :: x1 :: x2 :: x3 :: x4 :: x5 :: x6 :: x7 :: x8 :: x9 :: xa :: xb :: r).getD 6 0 = x6 := rfl
    rw [e] at h3
    omega
  · have h3 := (pf_iff ..).1 h2
    have := xor1 x7
    have e : (x0 :: x1 :: x2 :: x3 :: x4 :: x5 :: x6 :: x7 :: x8 :: x9 :: xa :: xb :: r).getD 7 0 = x7 := rfl
    rw [e] at h3
    omega
  · have h3 := (pf_iff ..).1 h2
    have := xor1 x8
    have e : (x0 :: x1 :: x2 :: x3 :: x4 :: x5 :: x6 :: x7 :: x8 :: x9 :: xa :: xb :: r).getD 8 0 = x8 := rfl
    rw [e] at h3
    omega
  · have h3 := (pf_iff ..).1 h2
    have := xor1 x9
    have e : (x0 :: x1 :: x2 :: x3 :: x4 :: x5 :: x6 :: x7 :: x8 :: x9 :: xa :: xb :: r).getD 9 0 = x9 := rfl
    rw [e] at h3
    omega
  · have h3 := (pf_iff ..).1 h2
    have := xor1 xa
    have e : (x0 :: x1 :: x2 :: x3 :: x4 :: x5 :: x6 :: x7 :: x8 :: x9 :: xa :: xb :: r).getD 10 0 = xa := rfl
    rw [e] at h3
    omega
  · have h3 := (pf_iff ..).1 h2
    have := xor1 xb
    have e : (x0 :: x1 :: x2 :: x3 :: x4 :: x5 :: x6 :: x7 :: x8 :: x9 :: xa :: xb :: r).getD 11 0 = xb := rfl
    rw [e] at h3
    omega
theorem pf_nine {ys : List UInt8} (h : pfOk ys = true) : (ys.getD 9 0).toNat + 12 = ys.length := by
  obtain ⟨x0, x1, x2, x3, x4, x5, x6, x7, x8, x9, xa, xb, r, rfl⟩ := pf_shape (pf_len h).1
  have h1 := (pf_iff ..).1 h
  show x9.toNat + 12 = r.length + 12
  omega
theorem pf_less {ys : List UInt8} (h : pfOk ys = true) : pfOk (ys.take (ys.length - 1)) = false := by
  have h9 := pf_nine h
  have hl := pf_len h
  refine pf_no fun ⟨k1, k2, _⟩ => ?_
  rw [List.length_take] at k1 k2
  have e : (ys.take (ys.length - 1)).getD 9 0 = ys.getD 9 0 := by
    simp only [List.getD_eq_getElem?_getD]
    rw [List.getElem?_take, if_pos (by omega)]
  rw [e] at k2
  omega
theorem pf_more {ys : List UInt8} (h : pfOk ys = true) (x : UInt8) : pfOk (ys ++ [x]) = false := by
  have h9 := pf_nine h
  have hl := pf_len h
  refine pf_no fun ⟨k1, k2, _⟩ => ?_
  rw [List.length_append, List.length_cons, List.length_nil] at k1 k2
  have e : (ys ++ [x]).getD 9 0 = ys.getD 9 0 := by
    simp only [List.getD_eq_getElem?_getD]
    rw [List.getElem?_append_left (by omega)]
  rw [e] at k2
  omega
theorem toU8_byte {v : Int} (h0 : 0 ≤ v) (h1 : v ≤ 255) : (((toU8 v).toNat : Nat) : Int) = v := by
  rw [toU8_val, IntKind.wrap_u8]; omega
/-- bytes of a packet tell it -/
theorem pk_back {f t p h i a : Int} {m u : Bool} {xs : List UInt8} (hok : pkB f t p h i a m u xs.length = true) :
    pfOk (pkV f t p h i a m u xs) = true ∧ pfF (pkV f t p h i a m u xs) = f ∧ pfT (pkV f t p h i a m u xs) = t ∧ pfP (pkV f t p h i a m u xs) = p ∧ pfH (pkV f t p h i a m u xs) = h ∧ pfI (pkV f t p h i a m u xs) = i ∧ pfA (pkV f t p h i a m u xs) = a ∧ pfM (pkV f t p h i a m u xs) = m ∧ pfU (pkV f t p h i a m u xs) = u ∧ pfD (pkV f t p h i a m u xs) = xs := by
  have hk := pkR_of hok
  have hM : pkM a m u xs.length = true := by rw [pkB, Bool.and_eq_true] at hok; exact hok.2
  obtain ⟨x0, x1, e0, s0⟩ := bytesOf_two f hk.1.1.1 hk.1.1.2
  obtain ⟨x2, x3, e2, s2⟩ := bytesOf_two t hk.1.2.1 hk.1.2.2
  have hsb := sumOf_bd (pkH f t p h i a m u xs.length)
  obtain ⟨xa, xb, ea, sa⟩ := bytesOf_two (sumOf (pkH f t p h i a m u xs.length)) hsb.1 hsb.2
  have b4 := toU8_byte hk.2.1.1 hk.2.1.2
  have b5 := toU8_byte hk.2.2.1.1 hk.2.2.1.2
  have b6 := toU8_byte hk.2.2.2.1.1 hk.2.2.2.1.2
  have b7 := toU8_byte hk.2.2.2.2.1.1 hk.2.2.2.2.1.2
  have b8 : ((toU8 (pkK m u)).toNat : Int) = pkK m u := by rw [toU8_val, pkK_wrap]
  have b9 := toU8_byte (v := (xs.length : Int)) (by omega) (by omega)
  have hH : pkH f t p h i a m u xs.length = [x0, x1, x2, x3, toU8 p, toU8 h, toU8 i, toU8 a, toU8 (pkK m u), toU8 (xs.length : Int)] := by rw [pkH, e0, e2]; rfl
  have hV : pkV f t p h i a m u xs = x0 :: x1 :: x2 :: x3 :: toU8 p :: toU8 h :: toU8 i :: toU8 a :: toU8 (pkK m u) :: toU8 (xs.length : Int) :: xa :: xb :: xs := by
    rw [pkV, if_pos hok, ea, hH]; rfl
  have hfit := fits_ten x0 x1 x2 x3 (toU8 p) (toU8 h) (toU8 i) (toU8 a) (toU8 (pkK m u)) (toU8 (xs.length : Int)) (256 * xa.toNat + xb.toNat) (by omega)
  rw [← hH, ← sa] at hfit
  have hf : fits (pkH f t p h i a m u xs.length) (sumOf (pkH f t p h i a m u xs.length)) = true := by
    unfold fits
    rw [decide_eq_true_eq]
    exact ⟨hsb.1, hsb.2, rfl⟩
  have hf2 := hfit.1 hf
  have hkm : (pkK m u = 0 ∧ m = false ∧ u = false) ∨ (pkK m u = 1 ∧ m = true ∧ u = false) ∨ (pkK m u = 2 ∧ m = false ∧ u = true) ∨ (pkK m u = 3 ∧ m = true ∧ u = true) := by
    cases m <;> cases u <;> simp [pkK]
  have hmm : m = decide ((toU8 (pkK m u)).toNat % 2 = 1) ∧ u = decide (2 ≤ (toU8 (pkK m u)).toNat) := by
    rcases hkm with ⟨e, rfl, rfl⟩ | ⟨e, rfl, rfl⟩ | ⟨e, rfl, rfl⟩ | ⟨e, rfl, rfl⟩
    · exact ⟨(decide_eq_false (by omega)).symm, (decide_eq_false (by omega)).symm⟩
    · exact ⟨(decide_eq_true (by omega)).symm, (decide_eq_false (by omega)).symm⟩
    · exact ⟨(decide_eq_false (by omega)).symm, (decide_eq_true (by omega)).symm⟩
    · exact ⟨(decide_eq_true (by omega)).symm, (decide_eq_true (by omega)).symm⟩
  have hp : pfOk (x0 :: x1 :: x2 :: x3 :: toU8 p :: toU8 h :: toU8 i :: toU8 a :: toU8 (pkK m u) :: toU8 (xs.length : Int) :: xa :: xb :: xs) = true := by
    refine (pf_iff ..).2 ⟨by omega, by omega, by omega, hf2, ?_, ?_⟩
    · rcases hkm with ⟨e, rfl, rfl⟩ | ⟨e, rfl, rfl⟩ | ⟨e, rfl, rfl⟩ | ⟨e, rfl, rfl⟩ <;> simp [pkM] at hM <;> omega
    · rcases hkm with ⟨e, rfl, rfl⟩ | ⟨e, rfl, rfl⟩ | ⟨e, rfl, rfl⟩ | ⟨e, rfl, rfl⟩ <;> simp [pkM] at hM <;> omega
  have hv := pf_vals hp
  rw [hV]
  refine ⟨hp, ?_⟩
  obtain ⟨v1, v2, v3, v4, v5, v6, v7, v8, v9⟩ := hv
  rw [v1, v2, v3, v4, v5, v6, v7, v8, v9]
  exact ⟨s0.symm, s2.symm, b4, b5, b6, b7, hmm.1.symm, hmm.2.symm, rfl⟩
/-- a packet that passed a station is the same, with one hop less -/
theorem pp_next {xs : List UInt8} (h : ppOk xs = true) : pfOk (ppV xs) = true ∧ pfF (ppV xs) = pfF xs ∧ pfT (ppV xs) = pfT xs ∧ pfP (ppV xs) = pfP xs ∧ pfH (ppV xs) = pfH xs - 1 ∧ pfI (ppV xs) = pfI xs ∧ pfA (ppV xs) = pfA xs ∧ pfM (ppV xs) = pfM xs ∧ pfU (ppV xs) = pfU xs ∧ pfD (ppV xs) = pfD xs := by
  have h' := h
  rw [ppOk, Bool.and_eq_true, decide_eq_true_eq] at h'
  obtain ⟨hp, h2⟩ := h'
  have hV : ppV xs = (ppO xs).take 10 ++ (bytesOf (ppS xs) 2 ++ xs.drop 12) := by rw [ppV, if_pos h]
  have hSb := ppS_bd (pf_len hp).1
  obtain ⟨x0, x1, x2, x3, x4, x5, x6, x7, x8, x9, xa, xb, r, rfl⟩ := pf_shape (pf_len hp).1
  obtain ⟨ya, yb, ey, sy⟩ := bytesOf_two _ hSb.1 hSb.2
  have h5 : 2 ≤ x5.toNat := h2
  have c5 := toU8_byte (v := (x5.toNat : Int) - 1) (by omega) (by have := x5.toNat_lt; omega)
  have hO : ppO (x0 :: x1 :: x2 :: x3 :: x4 :: x5 :: x6 :: x7 :: x8 :: x9 :: xa :: xb :: r) = x0 :: x1 :: x2 :: x3 :: x4 :: toU8 ((x5.toNat : Int) - 1) :: x6 :: x7 :: x8 :: x9 :: xa :: xb :: r := rfl
  have hl : (x0 :: x1 :: x2 :: x3 :: x4 :: x5 :: x6 :: x7 :: x8 :: x9 :: xa :: xb :: r).length = r.length + 12 := rfl
  have n10 : numAt (x0 :: x1 :: x2 :: x3 :: x4 :: x5 :: x6 :: x7 :: x8 :: x9 :: xa :: xb :: r) 10 2 = ((256 * xa.toNat + xb.toNat : Nat) : Int) := numAt_two _ 10 10 rfl (by rw [hl]; omega)
  have n4 : numAt (x0 :: x1 :: x2 :: x3 :: x4 :: x5 :: x6 :: x7 :: x8 :: x9 :: xa :: xb :: r) 4 2 = ((256 * x4.toNat + x5.toNat : Nat) : Int) := numAt_two _ 4 4 rfl (by rw [hl]; omega)
  have m4 : numAt (x0 :: x1 :: x2 :: x3 :: x4 :: toU8 ((x5.toNat : Int) - 1) :: x6 :: x7 :: x8 :: x9 :: xa :: xb :: r) 4 2 = ((256 * x4.toNat + (toU8 ((x5.toNat : Int) - 1)).toNat : Nat) : Int) := numAt_two _ 4 4 rfl (by show 6 ≤ r.length + 12; omega)
  have l4 := x4.toNat_lt
  have l5 := x5.toNat_lt
  have la := xa.toNat_lt
  have lb := xb.toNat_lt
  have hS : ppS (x0 :: x1 :: x2 :: x3 :: x4 :: x5 :: x6 :: x7 :: x8 :: x9 :: xa :: xb :: r) % 65535 = ((256 * xa.toNat + xb.toNat : Nat) + 1 : Int) % 65535 := by
    rw [ppS, hO, n10, n4, m4, sTurn, inB_iff.2 (by omega), inB_iff.2 (by omega), inB_iff.2 (by omega)]
    have := turn3_mod ((256 * xa.toNat + xb.toNat : Nat) : Int) ((256 * x4.toNat + x5.toNat : Nat) : Int) ((256 * x4.toNat + (toU8 ((x5.toNat : Int) - 1)).toNat : Nat) : Int)
    rw [turn3] at this
    simp only [Bool.and_self, ↓reduceIte]
    rw [this]
    omega
  rw [ey] at hV
  have hV2 : ppV (x0 :: x1 :: x2 :: x3 :: x4 :: x5 :: x6 :: x7 :: x8 :: x9 :: xa :: xb :: r) = x0 :: x1 :: x2 :: x3 :: x4 :: toU8 ((x5.toNat : Int) - 1) :: x6 :: x7 :: x8 :: x9 :: ya :: yb :: r := hV
  have hi := (pf_iff ..).1 hp
  have hq : pfOk (x0 :: x1 :: x2 :: x3 :: x4 :: toU8 ((x5.toNat : Int) - 1) :: x6 :: x7 :: x8 :: x9 :: ya :: yb :: r) = true := by
    refine (pf_iff ..).2 ⟨hi.1, hi.2.1, hi.2.2.1, ?_, hi.2.2.2.2.1, hi.2.2.2.2.2⟩
    have := hi.2.2.2.1
    clear hi
    omega
  obtain ⟨v1, v2, v3, v4, v5, v6, v7, v8, v9⟩ := pf_vals hq
  obtain ⟨w1, w2, w3, w4, w5, w6, w7, w8, w9⟩ := pf_vals hp
  rw [hV2]
  exact ⟨hq, by rw [v1, w1], by rw [v2, w2], by rw [v3, w3], by rw [v4, w4]; exact c5, by rw [v5, w5], by rw [v6, w6], by rw [v7, w7], by rw [v8, w8], by rw [v9, w9]⟩
end Go.Proofs.Ytoiieccdbldfiaa
