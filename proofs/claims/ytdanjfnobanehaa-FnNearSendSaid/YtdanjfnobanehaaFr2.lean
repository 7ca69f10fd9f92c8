import Derived.Test.YtdanjfnobanehaaC2b
namespace Go.Proofs.Ytdanjfnobanehaa

/-- the parts that bytes would have as a frame -/
def frT0 (xs : List UInt8) : Int := ((xs.getD 0 0).toNat : Nat)
def frF0 (xs : List UInt8) : Int := ((xs.getD 1 0).toNat : Nat)
def frK0 (xs : List UInt8) : Int := ((xs.getD 2 0).toNat : Nat)
def frD0 (xs : List UInt8) : List UInt8 := (xs.drop 4).take (xs.length - 6)
def frFine (xs : List UInt8) : Bool := decide (6 ≤ xs.length) && (frBytes (frT0 xs) (frF0 xs) (frK0 xs) (frD0 xs) == xs)
theorem frD0_len {xs : List UInt8} (h : 6 ≤ xs.length) : (frD0 xs).length = xs.length - 6 := by
  simp [frD0, List.length_take, List.length_drop]; omega
theorem frBytes_len {t f k : Int} {xs : List UInt8} (h : frOk t f k xs.length = true) : (frBytes t f k xs).length = xs.length + 6 := by
  obtain ⟨s0, s1⟩ := sumOf_bd (frHead t f k xs)
  obtain ⟨x, y, he, _⟩ := bytesOf_two _ s0 s1
  rw [frBytes_yes h, he, List.length_append, frHead_len]
  simp; omega
theorem fr_long {xs : List UInt8} (h : 70 < xs.length) : frFine xs = false := by
  have : frOk (frT0 xs) (frF0 xs) (frK0 xs) (frD0 xs).length = false := by
    rw [Bool.eq_false_iff]; intro hc; have := (frOk_iff.1 hc).2.2.2; rw [frD0_len (by omega)] at this; omega
  have e := frBytes_no (t := frT0 xs) (f := frF0 xs) (k := frK0 xs) this
  simp [frFine, e]
  intro _
  rintro rfl
  simp at h
theorem fr_short {xs : List UInt8} (h : xs.length < 6) : frFine xs = false := by simp [frFine]; omega
end Go.Proofs.Ytdanjfnobanehaa
