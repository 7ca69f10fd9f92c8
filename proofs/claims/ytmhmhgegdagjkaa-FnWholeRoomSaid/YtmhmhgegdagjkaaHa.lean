import Derived.Test.YtmhmhgegdagjkaaXf
import Derived.Test.YtmhmhgegdagjkaaXk
import Derived.Test.YtmhmhgegdagjkaaVf
import Derived.Test.YtmhmhgegdagjkaaVk
namespace Go.Proofs.Ytmhmhgegdagjkaa
open Go.RowKit
set_option linter.unusedSimpArgs false
set_option linter.unusedVariables false
structure HS where
  d : Bool
  w : Pk
  b : Bool
  F : List Pt
def hs0 : HS := ⟨false, pk0, false, []⟩
end Go.Proofs.Ytmhmhgegdagjkaa
namespace Go.Proofs.Ytmhmhgegdagjkaa
open Go.RowKit
set_option linter.unusedSimpArgs false
set_option linter.unusedVariables false
theorem OwnOk.narrow {P : Program} {f : FuncId} {g g' : OC} (C : OwnOk P f g) (h : ∀ args B0 c r B1 bs, g' args B0 = some (c, r, B1, bs) → c → ∃ c0, g args B0 = some (c0, r, B1, bs) ∧ c0) : OwnOk P f g' :=
  ⟨C.there, fun w F Z0 s0 args vs B0 c r B1 bs hH hargs hlive hg hc => by
    obtain ⟨c0, h1, h2⟩ := h args B0 c r B1 bs hg hc
    exact C.does w F Z0 s0 args vs B0 c0 r B1 bs hH hargs hlive h1 h2⟩
def hln : List (FuncId × Abs) := [(93, ownAbs g_packet), (33, ownAbs g_pick), (34, ownAbs g_bytes)]
end Go.Proofs.Ytmhmhgegdagjkaa
