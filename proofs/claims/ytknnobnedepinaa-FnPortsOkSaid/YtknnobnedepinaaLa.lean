import Derived.Test.YtknnobnedepinaaVa
import Derived.Test.YtknnobnedepinaaFm
set_option linter.unusedVariables false
set_option linter.unusedSimpArgs false
namespace Go.Proofs.Ytknnobnedepinaa
open Go.RowKit
structure Ml where
  a : Int
  f : Int
  t : Int
  d : List UInt8
def mlB (m : Ml) : Bool := inZ m.a 0 65535 && inZ m.f 1 255 && inZ m.t 1 255 && decide (m.d.length ≤ 40)
def mlX (m : Ml) : List UInt8 := toU8 m.f :: toU8 m.t :: toU8 (m.d.length : Int) :: m.d
def mlS (a t : Int) (b : List UInt8) : Int := sumOf (bytesOf a 2 ++ bytesOf t 2 ++ b)
def mlV (m : Ml) (to : Int) : List UInt8 := if (mlB m && inZ to 0 65535) = true then mlX m ++ bytesOf (mlS m.a to (mlX m)) 2 else []
def mfM (a : Int) (b : List UInt8) : Ml := ⟨a, ((b.getD 0 0).toNat : Int), ((b.getD 1 0).toNat : Int), (b.drop 3).take (b.length - 5)⟩
def mfOk (a t : Int) (b : List UInt8) : Bool := decide (5 ≤ b.length) && inZ a 0 65535 && inZ t 0 65535 && mlB (mfM a b) && decide ((b.getD 2 0).toNat = (mfM a b).d.length) && decide (numAt b ((b.length - 2 : Nat) : Int) 2 = mlS a t (b.take (b.length - 2)))
theorem mlB_iff {m : Ml} : mlB m = true ↔ (0 ≤ m.a ∧ m.a ≤ 65535) ∧ (1 ≤ m.f ∧ m.f ≤ 255) ∧ (1 ≤ m.t ∧ m.t ≤ 255) ∧ m.d.length ≤ 40 := by
  simp only [mlB, inZ, Bool.and_eq_true, decide_eq_true_eq, and_assoc]
theorem inZ_iff {x a b : Int} : inZ x a b = true ↔ a ≤ x ∧ x ≤ b := by simp only [inZ, decide_eq_true_eq]
theorem mlS_bd (a t : Int) (b : List UInt8) : 0 ≤ mlS a t b ∧ mlS a t b ≤ 65535 := sumOf_bd _
theorem mlX_len (m : Ml) : (mlX m).length = m.d.length + 3 := rfl
theorem mlV_len {m : Ml} {to : Int} (h : (mlB m && inZ to 0 65535) = true) : (mlV m to).length = m.d.length + 5 := by
  rw [mlV, if_pos h, List.length_append, bytesOf_two_len (mlS_bd _ _ _), mlX_len]
theorem toU8_val' {v : Int} (h0 : 0 ≤ v) (h1 : v ≤ 255) : ((toU8 v).toNat : Int) = v := by
  have := toU8_val v
  rw [IntKind.wrap_u8] at this
  omega
theorem mlX_get {m : Ml} (h : mlB m = true) : (((mlX m).getD 0 0).toNat : Int) = m.f ∧ (((mlX m).getD 1 0).toNat : Int) = m.t ∧ ((mlX m).getD 2 0).toNat = m.d.length := by
  obtain ⟨_, hf, ht, hd⟩ := mlB_iff.1 h
  refine ⟨toU8_val' (by omega) (by omega), toU8_val' (by omega) (by omega), ?_⟩
  have : ((toU8 (m.d.length : Int)).toNat : Int) = (m.d.length : Int) := toU8_val' (by omega) (by omega)
  show (toU8 (m.d.length : Int)).toNat = m.d.length
  omega
theorem ml_read {m : Ml} {to : Int} (h : (mlB m && inZ to 0 65535) = true) : mfM m.a (mlV m to) = m ∧ (mlV m to).take ((mlV m to).length - 2) = mlX m ∧ numAt (mlV m to) (((mlV m to).length - 2 : Nat) : Int) 2 = mlS m.a to (mlX m) ∧ ((mlV m to).getD 2 0).toNat = m.d.length := by
  have hl := mlV_len h
  have hb := h
  rw [Bool.and_eq_true] at hb
  obtain ⟨g0, g1, g2⟩ := mlX_get hb.1
  have hs := mlS_bd m.a to (mlX m)
  have e : mlV m to = mlX m ++ bytesOf (mlS m.a to (mlX m)) 2 := by rw [mlV, if_pos h]
  have hx : (mlX m).length = (mlV m to).length - 2 := by rw [hl, mlX_len]; omega
  have e0 : (mlV m to).getD 0 0 = (mlX m).getD 0 0 := by rw [e]; rfl
  have e1 : (mlV m to).getD 1 0 = (mlX m).getD 1 0 := by rw [e]; rfl
  have e2 : (mlV m to).getD 2 0 = (mlX m).getD 2 0 := by rw [e]; rfl
  refine ⟨?_, ?_, ?_, by rw [e2]; exact g2⟩
  · have ed : ((mlV m to).drop 3).take ((mlV m to).length - 5) = m.d := by
      rw [hl, e]
      show ((m.d ++ bytesOf (mlS m.a to (mlX m)) 2)).take (m.d.length + 5 - 5) = m.d
      rw [Nat.add_sub_cancel, List.take_left]
    rw [mfM, e0, e1, g0, g1, ed]
  · rw [← hx, e, List.take_left]
  · rw [← hx]
    conv => lhs; rw [e]
    exact (numAt_bytesOf (mlX m) (mlS m.a to (mlX m)) 2 (by rw [bytesOf_two_len hs]; decide)).1
theorem mfOk_of {m : Ml} {to : Int} (h : (mlB m && inZ to 0 65535) = true) (a t : Int) : mfOk a t (mlV m to) = (inZ a 0 65535 && inZ t 0 65535 && decide (mlS m.a to (mlX m) = mlS a t (mlX m))) := by
  obtain ⟨h1, h2, h3, h4⟩ := ml_read h
  have hl := mlV_len h
  have hb := h
  rw [Bool.and_eq_true] at hb
  have hd : (mfM a (mlV m to)).d = m.d := by rw [← congrArg Ml.d h1]; rfl
  have hf : (mfM a (mlV m to)).f = m.f := by rw [← congrArg Ml.f h1]; rfl
  have ht : (mfM a (mlV m to)).t = m.t := by rw [← congrArg Ml.t h1]; rfl
  have ha : (mfM a (mlV m to)).a = a := rfl
  have hk := mlB_iff.1 hb.1
  have hm : mlB (mfM a (mlV m to)) = inZ a 0 65535 := by
    rw [mlB, ha, hf, ht, hd]
    have x1 : inZ m.f 1 255 = true := inZ_iff.2 hk.2.1
    have x2 : inZ m.t 1 255 = true := inZ_iff.2 hk.2.2.1
    rw [x1, x2, decide_eq_true hk.2.2.2, Bool.and_true, Bool.and_true, Bool.and_true]
  rw [mfOk, hm, hd, h2, h3, h4, decide_eq_true (by omega), decide_eq_true rfl]
  cases inZ a 0 65535 <;> cases inZ t 0 65535 <;> simp
theorem mf_sent {a t : Int} {b : List UInt8} (h : mfOk a t b = true) : mlV (mfM a b) t = b := by
  simp only [mfOk, Bool.and_eq_true, decide_eq_true_eq] at h
  obtain ⟨⟨⟨⟨⟨h5, ha⟩, ht⟩, hm⟩, hl⟩, hs⟩ := h
  have hk := mlB_iff.1 hm
  have hX : mlX (mfM a b) = b.take (b.length - 2) := by
    obtain ⟨x, y, z, r, rfl⟩ : ∃ x y z r, b = x :: y :: z :: r := by
      match b, h5 with
      | x :: y :: z :: r, _ => exact ⟨x, y, z, r, rfl⟩
    have hr : 2 ≤ r.length := by simp only [List.length_cons] at h5; omega
    have e1 : toU8 ((x.toNat : Nat) : Int) = x := by
      apply UInt8.toNat_inj.1
      have := toU8_val' (v := (x.toNat : Int)) (by omega) (by have := x.toNat_lt; omega)
      omega
    have e2 : toU8 ((y.toNat : Nat) : Int) = y := by
      apply UInt8.toNat_inj.1
      have := toU8_val' (v := (y.toNat : Int)) (by omega) (by have := y.toNat_lt; omega)
      omega
    have e3 : toU8 ((z.toNat : Nat) : Int) = z := by
      apply UInt8.toNat_inj.1
      have := toU8_val' (v := (z.toNat : Int)) (by omega) (by have := z.toNat_lt; omega)
      omega
    have hz : z.toNat = (mfM a (x :: y :: z :: r)).d.length := hl
    show toU8 ((x.toNat : Nat) : Int) :: toU8 ((y.toNat : Nat) : Int) :: toU8 (((mfM a (x :: y :: z :: r)).d.length : Nat) : Int) :: (mfM a (x :: y :: z :: r)).d = _
    rw [← hz, e1, e2, e3]
    have hd : (mfM a (x :: y :: z :: r)).d = r.take (r.length - 2) := by
      show (r.take (r.length + 1 + 1 + 1 - 5)) = _
      congr 1
    rw [hd]
    have e4 : (x :: y :: z :: r).length - 2 = (r.length - 2) + 1 + 1 + 1 := by simp only [List.length_cons]; omega
    rw [e4, List.take_succ_cons, List.take_succ_cons, List.take_succ_cons]
  have hq : (mlB (mfM a b) && inZ t 0 65535) = true := by rw [hm, ht]; rfl
  rw [mlV, if_pos hq, hX]
  have hv : bytesOf (numAt b ((b.length - 2 : Nat) : Int) 2) 2 = (b.drop (b.length - 2)).take 2 := by
    have h0 := mlS_bd a t (b.take (b.length - 2))
    have := (bytesOf_numAt b ((b.length - 2 : Nat) : Int) 2 (by rw [hs]; omega)).2.2.2.2
    rwa [Int.toNat_natCast] at this
  have hsa : mlS (mfM a b).a t (b.take (b.length - 2)) = numAt b ((b.length - 2 : Nat) : Int) 2 := hs.symm
  have h2 : (b.drop (b.length - 2)).take 2 = b.drop (b.length - 2) := List.take_of_length_le (by rw [List.length_drop]; omega)
  rw [hsa, hv, h2, List.take_append_drop]
end Go.Proofs.Ytknnobnedepinaa
