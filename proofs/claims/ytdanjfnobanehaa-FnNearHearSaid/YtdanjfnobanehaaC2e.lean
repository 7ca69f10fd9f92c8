import Derived.Test.YtdanjfnobanehaaC2d
import Derived.Test.YtdanjfnobanehaaC2c
namespace Go.Proofs.Ytdanjfnobanehaa
open Go.ChangeShapes Go.WideShapes Go.ChangeAt Go.RowKit

/-- what the model asks of bytes that are a frame -/
theorem frFine_spec (xs : List UInt8) (h : 6 ≤ xs.length) :
    frFine xs = (frOk (frT0 xs) (frF0 xs) (frK0 xs) (xs.length - 6) && (((xs.getD 3 0).toNat : Int) == ((xs.length - 6 : Nat) : Int)) && (numAt xs ((xs.length - 2 : Nat) : Int) 2 == sumOf (xs.take (xs.length - 2)))) := by
  have hdl := frD0_len h
  have hx : xs = [xs.getD 0 0, xs.getD 1 0, xs.getD 2 0, xs.getD 3 0] ++ (frD0 xs ++ xs.drop (xs.length - 2)) := by
    obtain ⟨x0, x1, x2, x3, r, rfl⟩ : ∃ x0 x1 x2 x3 r, xs = x0 :: x1 :: x2 :: x3 :: r := by
      rcases xs with _ | ⟨x0, _ | ⟨x1, _ | ⟨x2, _ | ⟨x3, r⟩⟩⟩⟩ <;> simp at h ⊢
    have e1 : (x0 :: x1 :: x2 :: x3 :: r).length - 6 = r.length - 2 := by simp
    have e2 : (x0 :: x1 :: x2 :: x3 :: r).length - 2 = (r.length - 2) + 4 := by simp at h ⊢; omega
    have e3 : List.drop ((x0 :: x1 :: x2 :: x3 :: r).length - 2) (x0 :: x1 :: x2 :: x3 :: r) = r.drop (r.length - 2) := by rw [e2]; rfl
    have e4 : frD0 (x0 :: x1 :: x2 :: x3 :: r) = r.take (r.length - 2) := by unfold frD0; rw [e1]; rfl
    rw [e3, e4, List.take_append_drop]
    rfl
  have htl : (xs.drop (xs.length - 2)).length = 2 := by rw [List.length_drop]; omega
  have htk : xs.take (xs.length - 2) = [xs.getD 0 0, xs.getD 1 0, xs.getD 2 0, xs.getD 3 0] ++ frD0 xs := by
    have e := congrArg (List.take (xs.length - 2)) hx
    rw [e, ← List.append_assoc, List.take_append_of_le_length (by simp; omega), List.take_of_length_le (by simp; omega)]
  obtain ⟨s0, s1⟩ := sumOf_bd (xs.take (xs.length - 2))
  have hnum := bytesOf_numAt xs ((xs.length - 2 : Nat) : Int) 2
  rcases ho : frOk (frT0 xs) (frF0 xs) (frK0 xs) (xs.length - 6) with _ | _
  · rw [← hdl] at ho
    have e := frBytes_no ho
    have : xs ≠ [] := by rintro rfl; simp at h
    have : ([] == xs) = false := by simp; intro e; exact this e
    simp [frFine, e, this]
  · have ho' := ho
    rw [← hdl] at ho'
    have hb := frBytes_yes ho'
    have eT : u8 (frT0 xs) = xs.getD 0 0 := u8_of _
    have eF : u8 (frF0 xs) = xs.getD 1 0 := u8_of _
    have eK : u8 (frK0 xs) = xs.getD 2 0 := u8_of _
    have h64 := (frOk_iff.1 ho).2.2.2
    have hh : frHead (frT0 xs) (frF0 xs) (frK0 xs) (frD0 xs) = [xs.getD 0 0, xs.getD 1 0, xs.getD 2 0, u8 ((xs.length - 6 : Nat) : Int)] ++ frD0 xs := by
      simp only [frHead, eT, eF, eK, hdl]
    rw [Bool.eq_iff_iff]
    simp only [frFine, Bool.and_eq_true, decide_eq_true_eq, beq_iff_eq, true_and]
    constructor
    · rintro ⟨_, hq⟩
      rw [hb, hh] at hq
      have h3 : xs.getD 3 0 = u8 ((xs.length - 6 : Nat) : Int) := by
        have := congrArg (fun l : List UInt8 => l.getD 3 0) hq
        simpa using this.symm
      have h3' : ((xs.getD 3 0).toNat : Int) = ((xs.length - 6 : Nat) : Int) := by rw [h3, u8_int (by omega) (by omega)]
      refine ⟨h3', ?_⟩
      have hs : sumOf (xs.take (xs.length - 2)) = sumOf ([xs.getD 0 0, xs.getD 1 0, xs.getD 2 0, u8 ((xs.length - 6 : Nat) : Int)] ++ frD0 xs) := by rw [htk, h3]
      obtain ⟨x, y, he, _⟩ := bytesOf_two _ s0 s1
      have hl : ([xs.getD 0 0, xs.getD 1 0, xs.getD 2 0, u8 ((xs.length - 6 : Nat) : Int)] ++ frD0 xs).length = xs.length - 2 := by simp [hdl]; omega
      have := (numAt_bytesOf ([xs.getD 0 0, xs.getD 1 0, xs.getD 2 0, u8 ((xs.length - 6 : Nat) : Int)] ++ frD0 xs) (sumOf (xs.take (xs.length - 2))) 2 (by rw [he]; simp)).1
      rw [hl, hs, hq] at this
      rw [hs]
      exact this
    · rintro ⟨h3, hs⟩
      refine ⟨h, ?_⟩
      have h3' : u8 ((xs.length - 6 : Nat) : Int) = xs.getD 3 0 := by rw [← h3]; exact u8_of _
      obtain ⟨_, _, _, _, hb2⟩ := hnum (by omega)
      rw [hs] at hb2
      have e2 : (xs.drop (((xs.length - 2 : Nat) : Int)).toNat).take (2 : Int).toNat = xs.drop (xs.length - 2) := by
        rw [Int.toNat_natCast]
        exact List.take_of_length_le (by rw [htl]; decide)
      rw [e2] at hb2
      rw [hb, hh, h3', ← htk, hb2]
      exact List.take_append_drop _ _
end Go.Proofs.Ytdanjfnobanehaa
