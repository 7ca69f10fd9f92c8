import Derived.Test.YtdanjfnobanehaaNum
namespace Go.Proofs.Ytdanjfnobanehaa

/-- a byte out of a number -/
def u8 (z : Int) : UInt8 := UInt8.ofNat z.toNat
theorem u8_int {z : Int} (h0 : 0 ≤ z) (h1 : z ≤ 255) : ((u8 z).toNat : Int) = z := by
  unfold u8
  rw [UInt8.toNat_ofNat']
  omega
theorem u8_of (x : UInt8) : u8 ((x.toNat : Nat) : Int) = x := by
  unfold u8
  simp
def frHead (t f k : Int) (xs : List UInt8) : List UInt8 := [u8 t, u8 f, u8 k, u8 (xs.length : Nat)] ++ xs
theorem frHead_len (t f k : Int) (xs : List UInt8) : (frHead t f k xs).length = 4 + xs.length := by simp [frHead]; omega
end Go.Proofs.Ytdanjfnobanehaa
