import Derived.Test.YtloffpgdclbkhaaR4
namespace Go.Proofs.Ytloffpgdclbkhaa
open Go.RowKit

/-! A function that makes what it answers, with slices inside rows: what it is handed turns no more. -/
def leafs : AV → List AV
  | .own r => [.own r]
  | .sub r lo hi => [.sub r lo hi]
  | .agg cs => leafsL cs
  | _ => []
where leafsL : List AV → List AV
  | [] => []
  | c :: cs => leafs c ++ leafsL cs

def ocOf (g : PC) : OC := fun args B0 => match B0 with
  | [] => match g args with
    | some (c, r, bs) => some (c, r, [], bs)
    | none => none
  | _ => none
def frzAbs (g : PC) : Abs := fun args L q => match g (args.map (nrm L)) with
  | some (c, r, bs) => if bs.length ≤ 16 then some ⟨c, r.ren (sh q), frz L (leafs.leafsL args) ++ hpAt q bs⟩ else none
  | none => none

section
variable {P : Program} {w : World} {Z : Nat → Prop} {L : Nat → Blk} {s : Nat → Value} {F : Nat → Prop} {W0 : Ent}

end
end Go.Proofs.Ytloffpgdclbkhaa
