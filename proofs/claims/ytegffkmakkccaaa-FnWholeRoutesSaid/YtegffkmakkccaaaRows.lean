/-
  No cell of these rows narrows 'for every input' (looked for: loops, veiled, ifaces, maps, wideKeys, modest, calm, conditions, laid).
  DERIVED. THE GIVEN ROWS OF THIS SEAT. 7 by the template 'for every input the law returns true; each argument reads behind the call as it read before'; 0 by the template 'total and deterministic' (their statements: YtegffkmakkccaaaTotals.lean).
  GIVEN WITH THE SEED: the statements are not yours to turn. If you find one false, say at which input.
  Laid BY PROGRAM, IN A SANDBOX (cutbox-rows.mjs): the forced cells as the released guide's own fill.sh prints them over the translation 04830d93fe50a43a… (all of the seat's roots in one cut). By AI agents, Wed Nov 11 2026. No macro, syntax, notation, axiom, sorry.
-/
import Derived.Test.YtegffkmakkccaaaChecked
import GoSem.Claim
import GoSem.ClaimJoined
import GoSem.ClaimMapViews
import Derived.JoinedTies
import Derived.KernelRfl
namespace Go.Proofs.Ytegffkmakkccaaa
/- THE CELL 'sum', in the pinned program and in every row, IS THE sha256 OF THE DUMP (.gsa) THAT YtegffkmakkccaaaProg.lean LOADS. Nothing in Lean hashes anything: it is a label: what it is worth is what the hold of that sum in a sandbox is worth. -/
noncomputable def Try.pinned : Pinned := { name := "ytegffkmakkccaaa", sum := "04830d93fe50a43a2e5b4010999114faee77472aa4c835d1ffbf29f2d5accd96", checked := Try.checked }
namespace Rows
def none {H : Type} : Left H := { results := [], args := [] }

/-- 'laws.FnPartsOk': WHATEVER THE INPUT: true; the input reads as it did. -/
def fnPartsOkSpec : ChangeSpec := { name := "fnPartsOk", fn := fun _ => fun
  | [d] => { results := [.lit (.bool true)], args := [d] }
  | _ => none }
def fnPartsOkRow : OpenClaim := { program := "ytegffkmakkccaaa", sum := "04830d93fe50a43a2e5b4010999114faee77472aa4c835d1ffbf29f2d5accd96", func := "loop.example/netstack/laws.FnPartsOk", spec := "fnPartsOk", apart := false }
def FnPartsOkSaid : Prop := fnPartsOkRow.holds Try.pinned (OpenSpec.ofChange fnPartsOkSpec)

/-- ITS FALSE NEIGHBOUR: 'it returns false'. Refute it at one input. -/
def fnPartsOkWrong : ChangeSpec := { name := "fnPartsOk", fn := fun _ => fun
  | [d] => { results := [.lit (.bool false)], args := [d] }
  | _ => none }
def FnPartsOkWrongFalsely : Prop := fnPartsOkRow.holds Try.pinned (OpenSpec.ofChange fnPartsOkWrong)

/-- 'laws.FnPartsHear': WHATEVER THE INPUT: true; the input reads as it did. -/
def fnPartsHearSpec : ChangeSpec := { name := "fnPartsHear", fn := fun _ => fun
  | [d] => { results := [.lit (.bool true)], args := [d] }
  | _ => none }
def fnPartsHearRow : OpenClaim := { program := "ytegffkmakkccaaa", sum := "04830d93fe50a43a2e5b4010999114faee77472aa4c835d1ffbf29f2d5accd96", func := "loop.example/netstack/laws.FnPartsHear", spec := "fnPartsHear", apart := false }
def FnPartsHearSaid : Prop := fnPartsHearRow.holds Try.pinned (OpenSpec.ofChange fnPartsHearSpec)

/-- ITS FALSE NEIGHBOUR: 'it returns false'. Refute it at one input. -/
def fnPartsHearWrong : ChangeSpec := { name := "fnPartsHear", fn := fun _ => fun
  | [d] => { results := [.lit (.bool false)], args := [d] }
  | _ => none }
def FnPartsHearWrongFalsely : Prop := fnPartsHearRow.holds Try.pinned (OpenSpec.ofChange fnPartsHearWrong)

/-- 'laws.FnNoteEchoed': WHATEVER THE INPUT: true; the input reads as it did. -/
def fnNoteEchoedSpec : ChangeSpec := { name := "fnNoteEchoed", fn := fun _ => fun
  | [d] => { results := [.lit (.bool true)], args := [d] }
  | _ => none }
def fnNoteEchoedRow : OpenClaim := { program := "ytegffkmakkccaaa", sum := "04830d93fe50a43a2e5b4010999114faee77472aa4c835d1ffbf29f2d5accd96", func := "loop.example/netstack/laws.FnNoteEchoed", spec := "fnNoteEchoed", apart := false }
def FnNoteEchoedSaid : Prop := fnNoteEchoedRow.holds Try.pinned (OpenSpec.ofChange fnNoteEchoedSpec)

/-- ITS FALSE NEIGHBOUR: 'it returns false'. Refute it at one input. -/
def fnNoteEchoedWrong : ChangeSpec := { name := "fnNoteEchoed", fn := fun _ => fun
  | [d] => { results := [.lit (.bool false)], args := [d] }
  | _ => none }
def FnNoteEchoedWrongFalsely : Prop := fnNoteEchoedRow.holds Try.pinned (OpenSpec.ofChange fnNoteEchoedWrong)

/-- 'laws.FnPortTake': WHATEVER THE INPUT: true; the input reads as it did. -/
def fnPortTakeSpec : ChangeSpec := { name := "fnPortTake", fn := fun _ => fun
  | [d] => { results := [.lit (.bool true)], args := [d] }
  | _ => none }
def fnPortTakeRow : OpenClaim := { program := "ytegffkmakkccaaa", sum := "04830d93fe50a43a2e5b4010999114faee77472aa4c835d1ffbf29f2d5accd96", func := "loop.example/netstack/laws.FnPortTake", spec := "fnPortTake", apart := false }
def FnPortTakeSaid : Prop := fnPortTakeRow.holds Try.pinned (OpenSpec.ofChange fnPortTakeSpec)

/-- ITS FALSE NEIGHBOUR: 'it returns false'. Refute it at one input. -/
def fnPortTakeWrong : ChangeSpec := { name := "fnPortTake", fn := fun _ => fun
  | [d] => { results := [.lit (.bool false)], args := [d] }
  | _ => none }
def FnPortTakeWrongFalsely : Prop := fnPortTakeRow.holds Try.pinned (OpenSpec.ofChange fnPortTakeWrong)

/-- 'laws.FnWholeRoutes': WHATEVER THE INPUT: true; the input reads as it did. -/
def fnWholeRoutesSpec : ChangeSpec := { name := "fnWholeRoutes", fn := fun _ => fun
  | [d] => { results := [.lit (.bool true)], args := [d] }
  | _ => none }
def fnWholeRoutesRow : OpenClaim := { program := "ytegffkmakkccaaa", sum := "04830d93fe50a43a2e5b4010999114faee77472aa4c835d1ffbf29f2d5accd96", func := "loop.example/netstack/laws.FnWholeRoutes", spec := "fnWholeRoutes", apart := false }
def FnWholeRoutesSaid : Prop := fnWholeRoutesRow.holds Try.pinned (OpenSpec.ofChange fnWholeRoutesSpec)

/-- ITS FALSE NEIGHBOUR: 'it returns false'. Refute it at one input. -/
def fnWholeRoutesWrong : ChangeSpec := { name := "fnWholeRoutes", fn := fun _ => fun
  | [d] => { results := [.lit (.bool false)], args := [d] }
  | _ => none }
def FnWholeRoutesWrongFalsely : Prop := fnWholeRoutesRow.holds Try.pinned (OpenSpec.ofChange fnWholeRoutesWrong)

/-- 'laws.FnExactNoteEchoed': WHATEVER THE INPUT: true; the input reads as it did. -/
def fnExactNoteEchoedSpec : ChangeSpec := { name := "fnExactNoteEchoed", fn := fun _ => fun
  | [d1, d2] => { results := [.lit (.bool true)], args := [d1, d2] }
  | _ => none }
def fnExactNoteEchoedRow : OpenClaim := { program := "ytegffkmakkccaaa", sum := "04830d93fe50a43a2e5b4010999114faee77472aa4c835d1ffbf29f2d5accd96", func := "loop.example/netstack/laws.FnExactNoteEchoed", spec := "fnExactNoteEchoed", apart := false }
def FnExactNoteEchoedSaid : Prop := fnExactNoteEchoedRow.holds Try.pinned (OpenSpec.ofChange fnExactNoteEchoedSpec)

/-- ITS FALSE NEIGHBOUR: 'it returns false'. Refute it at one input. -/
def fnExactNoteEchoedWrong : ChangeSpec := { name := "fnExactNoteEchoed", fn := fun _ => fun
  | [d1, d2] => { results := [.lit (.bool false)], args := [d1, d2] }
  | _ => none }
def FnExactNoteEchoedWrongFalsely : Prop := fnExactNoteEchoedRow.holds Try.pinned (OpenSpec.ofChange fnExactNoteEchoedWrong)

/-- 'laws.FnExactPortTake': WHATEVER THE INPUT: true; the input reads as it did. -/
def fnExactPortTakeSpec : ChangeSpec := { name := "fnExactPortTake", fn := fun _ => fun
  | [d1, d2] => { results := [.lit (.bool true)], args := [d1, d2] }
  | _ => none }
def fnExactPortTakeRow : OpenClaim := { program := "ytegffkmakkccaaa", sum := "04830d93fe50a43a2e5b4010999114faee77472aa4c835d1ffbf29f2d5accd96", func := "loop.example/netstack/laws.FnExactPortTake", spec := "fnExactPortTake", apart := false }
def FnExactPortTakeSaid : Prop := fnExactPortTakeRow.holds Try.pinned (OpenSpec.ofChange fnExactPortTakeSpec)

/-- ITS FALSE NEIGHBOUR: 'it returns false'. Refute it at one input. -/
def fnExactPortTakeWrong : ChangeSpec := { name := "fnExactPortTake", fn := fun _ => fun
  | [d1, d2] => { results := [.lit (.bool false)], args := [d1, d2] }
  | _ => none }
def FnExactPortTakeWrongFalsely : Prop := fnExactPortTakeRow.holds Try.pinned (OpenSpec.ofChange fnExactPortTakeWrong)

/- THE SECOND FORM. 'bulk': how many values and letters a reading holds, each counted each time it is reached (what is shared counts as often as it is met; a slice's spare places count too). A statement '..UptoSaid' is the law's where the arguments, and the package variables that the reading takes, are together of bulk at most 1048576: NARROWER than '..Said'. Prove '..Said' where nothing that the law and all that it calls make is longer than what came in: it says more and counts as full. Else prove '..UptoSaid'. A law counts once. -/
mutual
def uptoBulk {H : Type} : DataW H → Nat
  | .lit (.string bytes) => bytes.length + 1
  | .lit _ => 1
  | .nil => 1
  | .ptr d => uptoBulk d + 1
  | .slice elems spare => uptoBulkAll elems + uptoBulkAll spare + 1
  | .agg parts => uptoBulkAll parts + 1
  | .iface _ d => uptoBulk d + 1
  | .map entries => uptoBulkEntries entries + 1
  | .held _ => 1
def uptoBulkAll {H : Type} : List (DataW H) → Nat
  | [] => 0
  | d :: r => uptoBulk d + uptoBulkAll r
def uptoBulkEntries {H : Type} : List (Lit × DataW H) → Nat
  | [] => 0
  | x :: r => uptoBulkEntry x + uptoBulkEntries r
def uptoBulkEntry {H : Type} : Lit × DataW H → Nat
  | (.string bytes, d) => bytes.length + uptoBulk d + 1
  | (_, d) => uptoBulk d + 1
 end
def uptoSmall : (H : Type) → List (DataW H) → Bool := fun _ ds => decide (uptoBulkAll ds ≤ 1048576)
def OpenSpec.upto (s : _root_.Go.ChangeSpec) : _root_.Go.OpenSpec := { _root_.Go.OpenSpec.ofChange s with cond := some uptoSmall }

/-- 'laws.FnPartsOk', WHERE WHAT IT READS IS OF BULK AT MOST 1048576: true; the input reads as it did. -/
def fnPartsOkUptoRow : OpenClaim := { program := "ytegffkmakkccaaa", sum := "04830d93fe50a43a2e5b4010999114faee77472aa4c835d1ffbf29f2d5accd96", func := "loop.example/netstack/laws.FnPartsOk", spec := "fnPartsOk", apart := false, narrowed := true }
def FnPartsOkUptoSaid : Prop := fnPartsOkUptoRow.holds Try.pinned (OpenSpec.upto fnPartsOkSpec)

/-- 'laws.FnPartsHear', WHERE WHAT IT READS IS OF BULK AT MOST 1048576: true; the input reads as it did. -/
def fnPartsHearUptoRow : OpenClaim := { program := "ytegffkmakkccaaa", sum := "04830d93fe50a43a2e5b4010999114faee77472aa4c835d1ffbf29f2d5accd96", func := "loop.example/netstack/laws.FnPartsHear", spec := "fnPartsHear", apart := false, narrowed := true }
def FnPartsHearUptoSaid : Prop := fnPartsHearUptoRow.holds Try.pinned (OpenSpec.upto fnPartsHearSpec)

/-- 'laws.FnNoteEchoed', WHERE WHAT IT READS IS OF BULK AT MOST 1048576: true; the input reads as it did. -/
def fnNoteEchoedUptoRow : OpenClaim := { program := "ytegffkmakkccaaa", sum := "04830d93fe50a43a2e5b4010999114faee77472aa4c835d1ffbf29f2d5accd96", func := "loop.example/netstack/laws.FnNoteEchoed", spec := "fnNoteEchoed", apart := false, narrowed := true }
def FnNoteEchoedUptoSaid : Prop := fnNoteEchoedUptoRow.holds Try.pinned (OpenSpec.upto fnNoteEchoedSpec)

/-- 'laws.FnPortTake', WHERE WHAT IT READS IS OF BULK AT MOST 1048576: true; the input reads as it did. -/
def fnPortTakeUptoRow : OpenClaim := { program := "ytegffkmakkccaaa", sum := "04830d93fe50a43a2e5b4010999114faee77472aa4c835d1ffbf29f2d5accd96", func := "loop.example/netstack/laws.FnPortTake", spec := "fnPortTake", apart := false, narrowed := true }
def FnPortTakeUptoSaid : Prop := fnPortTakeUptoRow.holds Try.pinned (OpenSpec.upto fnPortTakeSpec)

/-- 'laws.FnWholeRoutes', WHERE WHAT IT READS IS OF BULK AT MOST 1048576: true; the input reads as it did. -/
def fnWholeRoutesUptoRow : OpenClaim := { program := "ytegffkmakkccaaa", sum := "04830d93fe50a43a2e5b4010999114faee77472aa4c835d1ffbf29f2d5accd96", func := "loop.example/netstack/laws.FnWholeRoutes", spec := "fnWholeRoutes", apart := false, narrowed := true }
def FnWholeRoutesUptoSaid : Prop := fnWholeRoutesUptoRow.holds Try.pinned (OpenSpec.upto fnWholeRoutesSpec)

/-- 'laws.FnExactNoteEchoed', WHERE WHAT IT READS IS OF BULK AT MOST 1048576: true; the input reads as it did. -/
def fnExactNoteEchoedUptoRow : OpenClaim := { program := "ytegffkmakkccaaa", sum := "04830d93fe50a43a2e5b4010999114faee77472aa4c835d1ffbf29f2d5accd96", func := "loop.example/netstack/laws.FnExactNoteEchoed", spec := "fnExactNoteEchoed", apart := false, narrowed := true }
def FnExactNoteEchoedUptoSaid : Prop := fnExactNoteEchoedUptoRow.holds Try.pinned (OpenSpec.upto fnExactNoteEchoedSpec)

/-- 'laws.FnExactPortTake', WHERE WHAT IT READS IS OF BULK AT MOST 1048576: true; the input reads as it did. -/
def fnExactPortTakeUptoRow : OpenClaim := { program := "ytegffkmakkccaaa", sum := "04830d93fe50a43a2e5b4010999114faee77472aa4c835d1ffbf29f2d5accd96", func := "loop.example/netstack/laws.FnExactPortTake", spec := "fnExactPortTake", apart := false, narrowed := true }
def FnExactPortTakeUptoSaid : Prop := fnExactPortTakeUptoRow.holds Try.pinned (OpenSpec.upto fnExactPortTakeSpec)

end Rows
end Go.Proofs.Ytegffkmakkccaaa
