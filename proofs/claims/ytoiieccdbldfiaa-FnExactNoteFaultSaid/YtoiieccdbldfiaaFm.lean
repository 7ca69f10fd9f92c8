import Derived.Test.YtoiieccdbldfiaaSh
namespace Go.Proofs.Ytoiieccdbldfiaa
open Go.RowKit

/-! mathematics of frames: a turned bit, a byte less, a byte more -/
theorem xor4 (x : UInt8) : (x ^^^ 4).toNat = x.toNat + 4 ∨ (x ^^^ 4).toNat + 4 = x.toNat := by
  have : ∀ x : Fin 256, ((UInt8.ofNat x.val) ^^^ 4).toNat = x.val + 4 ∨ ((UInt8.ofNat x.val) ^^^ 4).toNat + 4 = x.val := by decide +kernel
  have h := this ⟨x.toNat, x.toNat_lt⟩
  simpa using h
theorem sumOf_turn4 (xs : List UInt8) (k : Nat) (hk : k < xs.length) : ¬ sumOf (xs.set k (xs.getD k 0 ^^^ 4)) = sumOf xs := by
  intro he
  have he : sumOf (xs.set k (xs.getD k 0 ^^^ 4)) % 65535 = sumOf xs % 65535 := by rw [he]
  revert he
  rw [sumOf_mod, sumOf_mod, List.length_set]
  have h := pk_set xs k (xs.getD k 0 ^^^ 4) xs.length
  rw [if_pos ⟨hk, hk⟩, if_pos ⟨hk, hk⟩] at h
  have h4 := xor4 (xs.getD k 0)
  by_cases he : k % 2 = 0
  · rw [wt_even he, wt_even he] at h
    omega
  · rw [wt_odd (by omega), wt_odd (by omega)] at h
    omega
theorem bytesOf_two_inj {s s' : Int} (h : 0 ≤ s ∧ s ≤ 65535) (h' : 0 ≤ s' ∧ s' ≤ 65535) (he : bytesOf s 2 = bytesOf s' 2) : s = s' := by
  obtain ⟨x, y, e, hs⟩ := bytesOf_two s h.1 h.2
  obtain ⟨x', y', e', hs'⟩ := bytesOf_two s' h'.1 h'.2
  rw [e, e'] at he
  injection he with h1 h2
  injection h2 with h2 _
  rw [hs, hs', h1, h2]
theorem bytesOf_two_len {s : Int} (h : 0 ≤ s ∧ s ≤ 65535) : (bytesOf s 2).length = 2 := by
  obtain ⟨x, y, e, _⟩ := bytesOf_two s h.1 h.2
  rw [e]; rfl

/-- bytes of a frame, taken apart -/
theorem fine_parts {ys : List UInt8} (h : frFine ys = true) :
    6 ≤ ys.length ∧ ys.length ≤ 70 ∧ frBytes (frT0 ys) (frF0 ys) (frK0 ys) (frD0 ys) = ys ∧ frOk (frT0 ys) (frF0 ys) (frK0 ys) (frD0 ys).length = true ∧
    ∃ hd, hd.length = ys.length - 2 ∧ ys = hd ++ bytesOf (sumOf hd) 2 ∧ hd.getD 3 0 = u8 ((ys.length - 6 : Nat) : Int) := by
  simp only [frFine, Bool.and_eq_true, decide_eq_true_eq, beq_iff_eq] at h
  obtain ⟨h6, he⟩ := h
  have hok : frOk (frT0 ys) (frF0 ys) (frK0 ys) (frD0 ys).length = true := by
    rw [← Bool.not_eq_false]
    intro hc
    rw [frBytes_no hc] at he
    rw [← he] at h6
    simp at h6
  have hl := frD0_len h6
  have h64 := (frOk_iff.1 hok).2.2.2
  refine ⟨h6, by omega, he, hok, frHead (frT0 ys) (frF0 ys) (frK0 ys) (frD0 ys), by rw [frHead_len, hl]; omega, ?_, ?_⟩
  · rw [frBytes_yes hok] at he
    exact he.symm
  · rw [← hl]
    simp [frHead, List.getD]
theorem app_inj {xa xb xc xd : List UInt8} (h : xa ++ xb = xc ++ xd) (hl : xa.length = xc.length) : xa = xc ∧ xb = xd := List.append_inj h hl

/-- with a bit of a byte turned it is no frame -/
theorem fine_turn {ys : List UInt8} (h : frFine ys = true) (i : Nat) (hi : i < ys.length) : frFine (ys.set i (ys.getD i 0 ^^^ 4)) = false := by
  rw [← Bool.not_eq_true]
  intro hc
  obtain ⟨h6, _, _, _, hd, hl, he, _⟩ := fine_parts h
  obtain ⟨k6, _, _, _, hd', hl', he', _⟩ := fine_parts hc
  rw [List.length_set] at hl' k6
  have s1 := sumOf_bd hd
  have s2 := sumOf_bd hd'
  by_cases hk : i < hd.length
  · have e1 : ys.getD i 0 = hd.getD i 0 := by
      rw [he, List.getD, List.getElem?_append_left hk]; rfl
    have e2 : ys.set i (ys.getD i 0 ^^^ 4) = hd.set i (hd.getD i 0 ^^^ 4) ++ bytesOf (sumOf hd) 2 := by
      rw [e1]
      conv => lhs; rw [he]
      rw [List.set_append_left _ _ hk]
    rw [e2] at he'
    obtain ⟨q1, q2⟩ := app_inj he' (by rw [List.length_set]; omega)
    have q3 := bytesOf_two_inj s1 s2 q2
    rw [← q1] at q3
    exact sumOf_turn4 hd i hk q3.symm
  · have hlb := bytesOf_two_len s1
    have hyl : ys.length = hd.length + 2 := by rw [he, List.length_append, hlb]
    obtain ⟨j, rfl⟩ : ∃ j, i = hd.length + j := ⟨i - hd.length, by omega⟩
    have e1 : ys.getD (hd.length + j) 0 = (bytesOf (sumOf hd) 2).getD j 0 := by
      rw [he, List.getD, List.getElem?_append_right (by omega), Nat.add_sub_cancel_left]; rfl
    have e2 : ys.set (hd.length + j) (ys.getD (hd.length + j) 0 ^^^ 4) = hd ++ (bytesOf (sumOf hd) 2).set j ((bytesOf (sumOf hd) 2).getD j 0 ^^^ 4) := by
      rw [e1]
      conv => lhs; rw [he]
      rw [List.set_append_right _ _ (by omega), Nat.add_sub_cancel_left]
    rw [e2] at he'
    obtain ⟨q1, q2⟩ := app_inj he' (by omega)
    rw [← q1] at q2
    have hj : j < (bytesOf (sumOf hd) 2).length := by omega
    have q3 := congrArg (fun l => l.getD j 0) q2
    simp only [List.getD, List.getElem?_set_self hj, Option.getD_some] at q3
    have h4 := xor4 ((bytesOf (sumOf hd) 2)[j]?.getD 0)
    rw [q3] at h4
    omega
/-- nor with a byte less -/
theorem u8_sub {m n : Nat} (hm : m ≤ 64) (hn : n ≤ 64) (h : u8 (m : Int) = u8 (n : Int)) : m = n := by
  have h1 := u8_int (z := (m : Int)) (by omega) (by omega)
  have h2 := u8_int (z := (n : Int)) (by omega) (by omega)
  rw [h] at h1
  omega
theorem fine_third {ys : List UInt8} (h : frFine ys = true) : ys.getD 3 0 = u8 ((ys.length - 6 : Nat) : Int) := by
  obtain ⟨h6, _, _, _, hd, hl, he, h3⟩ := fine_parts h
  rw [← h3]
  conv => lhs; rw [he]
  rw [List.getD, List.getElem?_append_left (by omega)]
  rfl
theorem fine_less {ys : List UInt8} (h : frFine ys = true) : frFine (ys.take (ys.length - 1)) = false := by
  rw [← Bool.not_eq_true]
  intro hc
  obtain ⟨h6, h70, _⟩ := fine_parts h
  obtain ⟨k6, k70, _⟩ := fine_parts hc
  have e1 := fine_third h
  have e2 := fine_third hc
  rw [List.length_take] at e2 k6 k70
  have e3 : (ys.take (ys.length - 1)).getD 3 0 = ys.getD 3 0 := by
    simp only [List.getD]
    rw [List.getElem?_take_of_lt (by omega)]
  rw [e3, e1] at e2
  have := u8_sub (by omega) (by omega) e2
  omega
theorem fine_more {ys : List UInt8} (h : frFine ys = true) (x : UInt8) : frFine (ys ++ [x]) = false := by
  rw [← Bool.not_eq_true]
  intro hc
  obtain ⟨h6, h70, _⟩ := fine_parts h
  obtain ⟨k6, k70, _⟩ := fine_parts hc
  have e1 := fine_third h
  have e2 := fine_third hc
  rw [List.length_append] at e2 k6 k70
  have e3 : (ys ++ [x]).getD 3 0 = ys.getD 3 0 := by
    simp only [List.getD]
    rw [List.getElem?_append_left (by omega)]
  rw [e3, e1] at e2
  simp only [List.length_cons, List.length_nil] at e2 k70
  have := u8_sub (by omega) (by omega) e2
  omega

/-! frBytes is fbV, and is read back -/
theorem frB_ok (t f k : Int) (n : Nat) : frB t f k n = frOk t f k n := by
  rw [Bool.eq_iff_iff, frOk_iff]
  simp only [frB, decide_eq_true_eq]
  omega
theorem toU8_u8 {v : Int} (h0 : 0 ≤ v) (h1 : v ≤ 255) : toU8 v = u8 v := by
  unfold toU8 u8
  rw [IntKind.wrap_u8]
  congr 2
  omega
theorem fbV_fr (t f k : Int) (xs : List UInt8) : fbV t f k xs = frBytes t f k xs := by
  unfold fbV
  rw [frB_ok]
  by_cases h : frOk t f k xs.length = true
  · obtain ⟨⟨t0, t1⟩, ⟨f0, f1⟩, ⟨k0, k1⟩, hn⟩ := frOk_iff.1 h
    rw [if_pos h, frBytes_yes h]
    have : fbH t f k xs = frHead t f k xs := by
      unfold fbH frHead
      rw [toU8_u8 t0 t1, toU8_u8 f0 (by omega), toU8_u8 k0 k1, toU8_u8 (by omega) (by omega)]
    rw [this]
  · rw [if_neg h, frBytes_no (by simpa using h)]
theorem frBytes_back {t f k : Int} {xs : List UInt8} (h : frOk t f k xs.length = true) :
    frFine (frBytes t f k xs) = true ∧ frT0 (frBytes t f k xs) = t ∧ frF0 (frBytes t f k xs) = f ∧ frK0 (frBytes t f k xs) = k ∧ frD0 (frBytes t f k xs) = xs := by
  obtain ⟨⟨t0, t1⟩, ⟨f0, f1⟩, ⟨k0, k1⟩, hn⟩ := frOk_iff.1 h
  have hl := frBytes_len h
  have e := frBytes_yes h
  have hlb := bytesOf_two_len (sumOf_bd (frHead t f k xs))
  have e0 : frT0 (frBytes t f k xs) = t := by rw [e]; simp [frT0, frHead, List.getD]; exact u8_int t0 t1
  have e1 : frF0 (frBytes t f k xs) = f := by rw [e]; simp [frF0, frHead, List.getD]; exact u8_int f0 (by omega)
  have e2 : frK0 (frBytes t f k xs) = k := by rw [e]; simp [frK0, frHead, List.getD]; exact u8_int k0 k1
  have e3 : frD0 (frBytes t f k xs) = xs := by
    unfold frD0
    rw [hl, e]
    simp [frHead]
  refine ⟨?_, e0, e1, e2, e3⟩
  simp only [frFine, Bool.and_eq_true, decide_eq_true_eq, beq_iff_eq]
  rw [e0, e1, e2, e3]
  exact ⟨by omega, rfl⟩
end Go.Proofs.Ytoiieccdbldfiaa
