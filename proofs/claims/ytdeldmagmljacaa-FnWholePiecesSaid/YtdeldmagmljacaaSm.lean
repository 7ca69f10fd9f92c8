import Derived.Test.YtdeldmagmljacaaSk
import Derived.Test.YtdeldmagmljacaaSh
import Derived.Test.YtdeldmagmljacaaSf

namespace Go.Proofs.Ytdeldmagmljacaa
open Go.RowKit
set_option linter.unusedSimpArgs false

/-! the draw of bytes of a frame, whole or not -/
def ffB (xs : List UInt8) : List UInt8 := fbV (frameV xs 0 0).to (frameV xs 0 0).frm (frameV xs 0 0).kind (frameV xs 0 0).data
def ffP (xs : List UInt8) : Int := (frameV xs 0 0).p
def g_drawFrameFrom : OC := fun args B0 => match args, B0 with
  | [.l _ rows], [] => if pickV ((bytesOfRows rows).take 2000) (ffP ((bytesOfRows rows).take 2000)) 5 = 1 then
        some (∃ xs, rows = rowsOfBytes xs, .sub 0 0 (pickV ((bytesOfRows rows).take 2000) (ffP ((bytesOfRows rows).take 2000) + 1) (ffB ((bytesOfRows rows).take 2000)).length).toNat, [], [.sl 5 1 (rowsOfBytes (ffB ((bytesOfRows rows).take 2000)))])
      else some (∃ xs, rows = rowsOfBytes xs, .own 0, [], [.sl 5 1 (rowsOfBytes (
        if pickV ((bytesOfRows rows).take 2000) (ffP ((bytesOfRows rows).take 2000)) 5 = 0 then (ffB ((bytesOfRows rows).take 2000)).set (pickV ((bytesOfRows rows).take 2000) (ffP ((bytesOfRows rows).take 2000) + 1) (ffB ((bytesOfRows rows).take 2000)).length).toNat (toU8 (pickV ((bytesOfRows rows).take 2000) (ffP ((bytesOfRows rows).take 2000) + 1 + 1) 256))
        else if pickV ((bytesOfRows rows).take 2000) (ffP ((bytesOfRows rows).take 2000)) 5 = 2 then ffB ((bytesOfRows rows).take 2000) ++ [0]
        else ffB ((bytesOfRows rows).take 2000)))])
  | _, _ => none
/-! the law -/
end Go.Proofs.Ytdeldmagmljacaa
