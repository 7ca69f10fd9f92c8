import Derived.Test.YtdanjfnobanehaaC2a
import Derived.Test.YtdanjfnobanehaaFr
import Derived.Test.YtdanjfnobanehaaMem
namespace Go.Proofs.Ytdanjfnobanehaa
open Go.ChangeShapes Go.WideShapes Go.ChangeAt Go.RowKit

def frBytes (t f k : Int) (xs : List UInt8) : List UInt8 := if frOk t f k xs.length then frHead t f k xs ++ bytesOf (sumOf (frHead t f k xs)) 2 else []
theorem frBytes_no {t f k : Int} {xs : List UInt8} (h : frOk t f k xs.length = false) : frBytes t f k xs = [] := by simp [frBytes, h]
theorem frBytes_yes {t f k : Int} {xs : List UInt8} (h : frOk t f k xs.length = true) : frBytes t f k xs = frHead t f k xs ++ bytesOf (sumOf (frHead t f k xs)) 2 := by simp [frBytes, h]

theorem RetB.nil {B : Nat} {w w' : World} (h : Below B w w') (c : Nat) (hc : c = 0) : RetB B [] w (.returned (.slice none 0 c)) w' := by
  subst hc
  exact ⟨none, 0, 0, rfl, World.ownsRow_nil _ _ _ _, h⟩

end Go.Proofs.Ytdanjfnobanehaa
