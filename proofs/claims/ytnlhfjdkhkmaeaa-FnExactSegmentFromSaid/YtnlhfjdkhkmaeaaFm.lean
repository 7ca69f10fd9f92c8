import Derived.Test.YtnlhfjdkhkmaeaaSh
namespace Go.Proofs.Ytnlhfjdkhkmaeaa
open Go.RowKit
theorem bytesOf_two_len {s : Int} (h : 0 ≤ s ∧ s ≤ 65535) : (bytesOf s 2).length = 2 := by
  obtain ⟨x, y, e, _⟩ := bytesOf_two s h.1 h.2
  rw [e]; rfl
end Go.Proofs.Ytnlhfjdkhkmaeaa
