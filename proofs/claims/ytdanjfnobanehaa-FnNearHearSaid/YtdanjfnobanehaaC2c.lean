import Derived.Test.YtdanjfnobanehaaC2b
namespace Go.Proofs.Ytdanjfnobanehaa
open Go.ChangeShapes Go.WideShapes Go.ChangeAt Go.RowKit

theorem RetB.empty {B : Nat} {w w' : World} (h : Below B w w') (hB : B ≤ w'.heap.size) : RetB B [] w (.returned (.slice (some ⟨w'.heap.size, 0, none⟩) 0 0)) (w'.alloc (.cells #[] 5)) :=
  ⟨_, 0, 0, rfl, own_empty w' B hB, h.alloc hB _⟩

end Go.Proofs.Ytdanjfnobanehaa
