/-
  No cell of these rows narrows 'for every input' (looked for: loops, veiled, ifaces, maps, wideKeys, modest, calm, conditions, laid).
  DERIVED. THE GIVEN ROWS OF THIS SEAT. 12 by the template 'for every input the law returns true; each argument reads behind the call as it read before'; 0 by the template 'total and deterministic' (their statements: YtdanjfnobanehaaTotals.lean).
  GIVEN WITH THE SEED: the statements are not yours to turn. If you find one false, say at which input.
  Laid BY PROGRAM, IN A SANDBOX (cutbox-rows.mjs): the forced cells as the released guide's own fill.sh prints them over the translation b6354c6dc8c98b79… (all of the seat's roots in one cut). By AI agents, Wed Nov 11 2026. No macro, syntax, notation, axiom, sorry.
-/
import Derived.Test.YtdanjfnobanehaaChecked
import GoSem.Claim
import GoSem.ClaimJoined
import GoSem.ClaimMapViews
import Derived.JoinedTies
import Derived.KernelRfl
namespace Go.Proofs.Ytdanjfnobanehaa
/- THE CELL 'sum', in the pinned program and in every row, IS THE sha256 OF THE DUMP (.gsa) THAT YtdanjfnobanehaaProg.lean LOADS. Nothing in Lean hashes anything: it is a label: what it is worth is what the hold of that sum in a sandbox is worth. -/
noncomputable def Try.pinned : Pinned := { name := "ytdanjfnobanehaa", sum := "b6354c6dc8c98b79e76feb0f9ed1dfeb9342fa2cf13e338946db88e60fde1af2", checked := Try.checked }
namespace Rows
def none {H : Type} : Left H := { results := [], args := [] }

/-- 'laws.FnNearSend': WHATEVER THE INPUT: true; the input reads as it did. -/
def fnNearSendSpec : ChangeSpec := { name := "fnNearSend", fn := fun _ => fun
  | [d] => { results := [.lit (.bool true)], args := [d] }
  | _ => none }
def fnNearSendRow : OpenClaim := { program := "ytdanjfnobanehaa", sum := "b6354c6dc8c98b79e76feb0f9ed1dfeb9342fa2cf13e338946db88e60fde1af2", func := "loop.example/netstack/laws.FnNearSend", spec := "fnNearSend", apart := false }
def FnNearSendSaid : Prop := fnNearSendRow.holds Try.pinned (OpenSpec.ofChange fnNearSendSpec)

/-- ITS FALSE NEIGHBOUR: 'it returns false'. Refute it at one input. -/
def fnNearSendWrong : ChangeSpec := { name := "fnNearSend", fn := fun _ => fun
  | [d] => { results := [.lit (.bool false)], args := [d] }
  | _ => none }
def FnNearSendWrongFalsely : Prop := fnNearSendRow.holds Try.pinned (OpenSpec.ofChange fnNearSendWrong)

/-- 'laws.FnNearHear': WHATEVER THE INPUT: true; the input reads as it did. -/
def fnNearHearSpec : ChangeSpec := { name := "fnNearHear", fn := fun _ => fun
  | [d] => { results := [.lit (.bool true)], args := [d] }
  | _ => none }
def fnNearHearRow : OpenClaim := { program := "ytdanjfnobanehaa", sum := "b6354c6dc8c98b79e76feb0f9ed1dfeb9342fa2cf13e338946db88e60fde1af2", func := "loop.example/netstack/laws.FnNearHear", spec := "fnNearHear", apart := false }
def FnNearHearSaid : Prop := fnNearHearRow.holds Try.pinned (OpenSpec.ofChange fnNearHearSpec)

/-- ITS FALSE NEIGHBOUR: 'it returns false'. Refute it at one input. -/
def fnNearHearWrong : ChangeSpec := { name := "fnNearHear", fn := fun _ => fun
  | [d] => { results := [.lit (.bool false)], args := [d] }
  | _ => none }
def FnNearHearWrongFalsely : Prop := fnNearHearRow.holds Try.pinned (OpenSpec.ofChange fnNearHearWrong)

/-- 'laws.FnPacketOk': WHATEVER THE INPUT: true; the input reads as it did. -/
def fnPacketOkSpec : ChangeSpec := { name := "fnPacketOk", fn := fun _ => fun
  | [d] => { results := [.lit (.bool true)], args := [d] }
  | _ => none }
def fnPacketOkRow : OpenClaim := { program := "ytdanjfnobanehaa", sum := "b6354c6dc8c98b79e76feb0f9ed1dfeb9342fa2cf13e338946db88e60fde1af2", func := "loop.example/netstack/laws.FnPacketOk", spec := "fnPacketOk", apart := false }
def FnPacketOkSaid : Prop := fnPacketOkRow.holds Try.pinned (OpenSpec.ofChange fnPacketOkSpec)

/-- ITS FALSE NEIGHBOUR: 'it returns false'. Refute it at one input. -/
def fnPacketOkWrong : ChangeSpec := { name := "fnPacketOk", fn := fun _ => fun
  | [d] => { results := [.lit (.bool false)], args := [d] }
  | _ => none }
def FnPacketOkWrongFalsely : Prop := fnPacketOkRow.holds Try.pinned (OpenSpec.ofChange fnPacketOkWrong)

/-- 'laws.FnPacketBytes': WHATEVER THE INPUT: true; the input reads as it did. -/
def fnPacketBytesSpec : ChangeSpec := { name := "fnPacketBytes", fn := fun _ => fun
  | [d] => { results := [.lit (.bool true)], args := [d] }
  | _ => none }
def fnPacketBytesRow : OpenClaim := { program := "ytdanjfnobanehaa", sum := "b6354c6dc8c98b79e76feb0f9ed1dfeb9342fa2cf13e338946db88e60fde1af2", func := "loop.example/netstack/laws.FnPacketBytes", spec := "fnPacketBytes", apart := false }
def FnPacketBytesSaid : Prop := fnPacketBytesRow.holds Try.pinned (OpenSpec.ofChange fnPacketBytesSpec)

/-- ITS FALSE NEIGHBOUR: 'it returns false'. Refute it at one input. -/
def fnPacketBytesWrong : ChangeSpec := { name := "fnPacketBytes", fn := fun _ => fun
  | [d] => { results := [.lit (.bool false)], args := [d] }
  | _ => none }
def FnPacketBytesWrongFalsely : Prop := fnPacketBytesRow.holds Try.pinned (OpenSpec.ofChange fnPacketBytesWrong)

/-- 'laws.FnPacketFrom': WHATEVER THE INPUT: true; the input reads as it did. -/
def fnPacketFromSpec : ChangeSpec := { name := "fnPacketFrom", fn := fun _ => fun
  | [d] => { results := [.lit (.bool true)], args := [d] }
  | _ => none }
def fnPacketFromRow : OpenClaim := { program := "ytdanjfnobanehaa", sum := "b6354c6dc8c98b79e76feb0f9ed1dfeb9342fa2cf13e338946db88e60fde1af2", func := "loop.example/netstack/laws.FnPacketFrom", spec := "fnPacketFrom", apart := false }
def FnPacketFromSaid : Prop := fnPacketFromRow.holds Try.pinned (OpenSpec.ofChange fnPacketFromSpec)

/-- ITS FALSE NEIGHBOUR: 'it returns false'. Refute it at one input. -/
def fnPacketFromWrong : ChangeSpec := { name := "fnPacketFrom", fn := fun _ => fun
  | [d] => { results := [.lit (.bool false)], args := [d] }
  | _ => none }
def FnPacketFromWrongFalsely : Prop := fnPacketFromRow.holds Try.pinned (OpenSpec.ofChange fnPacketFromWrong)

/-- 'laws.FnPacketPassed': WHATEVER THE INPUT: true; the input reads as it did. -/
def fnPacketPassedSpec : ChangeSpec := { name := "fnPacketPassed", fn := fun _ => fun
  | [d] => { results := [.lit (.bool true)], args := [d] }
  | _ => none }
def fnPacketPassedRow : OpenClaim := { program := "ytdanjfnobanehaa", sum := "b6354c6dc8c98b79e76feb0f9ed1dfeb9342fa2cf13e338946db88e60fde1af2", func := "loop.example/netstack/laws.FnPacketPassed", spec := "fnPacketPassed", apart := false }
def FnPacketPassedSaid : Prop := fnPacketPassedRow.holds Try.pinned (OpenSpec.ofChange fnPacketPassedSpec)

/-- ITS FALSE NEIGHBOUR: 'it returns false'. Refute it at one input. -/
def fnPacketPassedWrong : ChangeSpec := { name := "fnPacketPassed", fn := fun _ => fun
  | [d] => { results := [.lit (.bool false)], args := [d] }
  | _ => none }
def FnPacketPassedWrongFalsely : Prop := fnPacketPassedRow.holds Try.pinned (OpenSpec.ofChange fnPacketPassedWrong)

/-- 'laws.FnExactNearSend': WHATEVER THE INPUT: true; the input reads as it did. -/
def fnExactNearSendSpec : ChangeSpec := { name := "fnExactNearSend", fn := fun _ => fun
  | [d1, d2, d3, d4] => { results := [.lit (.bool true)], args := [d1, d2, d3, d4] }
  | _ => none }
def fnExactNearSendRow : OpenClaim := { program := "ytdanjfnobanehaa", sum := "b6354c6dc8c98b79e76feb0f9ed1dfeb9342fa2cf13e338946db88e60fde1af2", func := "loop.example/netstack/laws.FnExactNearSend", spec := "fnExactNearSend", apart := false }
def FnExactNearSendSaid : Prop := fnExactNearSendRow.holds Try.pinned (OpenSpec.ofChange fnExactNearSendSpec)

/-- ITS FALSE NEIGHBOUR: 'it returns false'. Refute it at one input. -/
def fnExactNearSendWrong : ChangeSpec := { name := "fnExactNearSend", fn := fun _ => fun
  | [d1, d2, d3, d4] => { results := [.lit (.bool false)], args := [d1, d2, d3, d4] }
  | _ => none }
def FnExactNearSendWrongFalsely : Prop := fnExactNearSendRow.holds Try.pinned (OpenSpec.ofChange fnExactNearSendWrong)

/-- 'laws.FnExactNearHear': WHATEVER THE INPUT: true; the input reads as it did. -/
def fnExactNearHearSpec : ChangeSpec := { name := "fnExactNearHear", fn := fun _ => fun
  | [d1, d2, d3, d4] => { results := [.lit (.bool true)], args := [d1, d2, d3, d4] }
  | _ => none }
def fnExactNearHearRow : OpenClaim := { program := "ytdanjfnobanehaa", sum := "b6354c6dc8c98b79e76feb0f9ed1dfeb9342fa2cf13e338946db88e60fde1af2", func := "loop.example/netstack/laws.FnExactNearHear", spec := "fnExactNearHear", apart := false }
def FnExactNearHearSaid : Prop := fnExactNearHearRow.holds Try.pinned (OpenSpec.ofChange fnExactNearHearSpec)

/-- ITS FALSE NEIGHBOUR: 'it returns false'. Refute it at one input. -/
def fnExactNearHearWrong : ChangeSpec := { name := "fnExactNearHear", fn := fun _ => fun
  | [d1, d2, d3, d4] => { results := [.lit (.bool false)], args := [d1, d2, d3, d4] }
  | _ => none }
def FnExactNearHearWrongFalsely : Prop := fnExactNearHearRow.holds Try.pinned (OpenSpec.ofChange fnExactNearHearWrong)

/-- 'laws.FnExactPacketOk': WHATEVER THE INPUT: true; the input reads as it did. -/
def fnExactPacketOkSpec : ChangeSpec := { name := "fnExactPacketOk", fn := fun _ => fun
  | [d] => { results := [.lit (.bool true)], args := [d] }
  | _ => none }
def fnExactPacketOkRow : OpenClaim := { program := "ytdanjfnobanehaa", sum := "b6354c6dc8c98b79e76feb0f9ed1dfeb9342fa2cf13e338946db88e60fde1af2", func := "loop.example/netstack/laws.FnExactPacketOk", spec := "fnExactPacketOk", apart := false }
def FnExactPacketOkSaid : Prop := fnExactPacketOkRow.holds Try.pinned (OpenSpec.ofChange fnExactPacketOkSpec)

/-- ITS FALSE NEIGHBOUR: 'it returns false'. Refute it at one input. -/
def fnExactPacketOkWrong : ChangeSpec := { name := "fnExactPacketOk", fn := fun _ => fun
  | [d] => { results := [.lit (.bool false)], args := [d] }
  | _ => none }
def FnExactPacketOkWrongFalsely : Prop := fnExactPacketOkRow.holds Try.pinned (OpenSpec.ofChange fnExactPacketOkWrong)

/-- 'laws.FnExactPacketBytes': WHATEVER THE INPUT: true; the input reads as it did. -/
def fnExactPacketBytesSpec : ChangeSpec := { name := "fnExactPacketBytes", fn := fun _ => fun
  | [d] => { results := [.lit (.bool true)], args := [d] }
  | _ => none }
def fnExactPacketBytesRow : OpenClaim := { program := "ytdanjfnobanehaa", sum := "b6354c6dc8c98b79e76feb0f9ed1dfeb9342fa2cf13e338946db88e60fde1af2", func := "loop.example/netstack/laws.FnExactPacketBytes", spec := "fnExactPacketBytes", apart := false }
def FnExactPacketBytesSaid : Prop := fnExactPacketBytesRow.holds Try.pinned (OpenSpec.ofChange fnExactPacketBytesSpec)

/-- ITS FALSE NEIGHBOUR: 'it returns false'. Refute it at one input. -/
def fnExactPacketBytesWrong : ChangeSpec := { name := "fnExactPacketBytes", fn := fun _ => fun
  | [d] => { results := [.lit (.bool false)], args := [d] }
  | _ => none }
def FnExactPacketBytesWrongFalsely : Prop := fnExactPacketBytesRow.holds Try.pinned (OpenSpec.ofChange fnExactPacketBytesWrong)

/-- 'laws.FnExactPacketFrom': WHATEVER THE INPUT: true; the input reads as it did. -/
def fnExactPacketFromSpec : ChangeSpec := { name := "fnExactPacketFrom", fn := fun _ => fun
  | [d] => { results := [.lit (.bool true)], args := [d] }
  | _ => none }
def fnExactPacketFromRow : OpenClaim := { program := "ytdanjfnobanehaa", sum := "b6354c6dc8c98b79e76feb0f9ed1dfeb9342fa2cf13e338946db88e60fde1af2", func := "loop.example/netstack/laws.FnExactPacketFrom", spec := "fnExactPacketFrom", apart := false }
def FnExactPacketFromSaid : Prop := fnExactPacketFromRow.holds Try.pinned (OpenSpec.ofChange fnExactPacketFromSpec)

/-- ITS FALSE NEIGHBOUR: 'it returns false'. Refute it at one input. -/
def fnExactPacketFromWrong : ChangeSpec := { name := "fnExactPacketFrom", fn := fun _ => fun
  | [d] => { results := [.lit (.bool false)], args := [d] }
  | _ => none }
def FnExactPacketFromWrongFalsely : Prop := fnExactPacketFromRow.holds Try.pinned (OpenSpec.ofChange fnExactPacketFromWrong)

/-- 'laws.FnExactPacketPassed': WHATEVER THE INPUT: true; the input reads as it did. -/
def fnExactPacketPassedSpec : ChangeSpec := { name := "fnExactPacketPassed", fn := fun _ => fun
  | [d] => { results := [.lit (.bool true)], args := [d] }
  | _ => none }
def fnExactPacketPassedRow : OpenClaim := { program := "ytdanjfnobanehaa", sum := "b6354c6dc8c98b79e76feb0f9ed1dfeb9342fa2cf13e338946db88e60fde1af2", func := "loop.example/netstack/laws.FnExactPacketPassed", spec := "fnExactPacketPassed", apart := false }
def FnExactPacketPassedSaid : Prop := fnExactPacketPassedRow.holds Try.pinned (OpenSpec.ofChange fnExactPacketPassedSpec)

/-- ITS FALSE NEIGHBOUR: 'it returns false'. Refute it at one input. -/
def fnExactPacketPassedWrong : ChangeSpec := { name := "fnExactPacketPassed", fn := fun _ => fun
  | [d] => { results := [.lit (.bool false)], args := [d] }
  | _ => none }
def FnExactPacketPassedWrongFalsely : Prop := fnExactPacketPassedRow.holds Try.pinned (OpenSpec.ofChange fnExactPacketPassedWrong)

/- THE SECOND FORM. 'bulk': how many values and letters a reading holds, each counted each time it is reached (what is shared counts as often as it is met; a slice's spare places count too). A statement '..UptoSaid' is the law's where the arguments, and the package variables that the reading takes, are together of bulk at most 1048576: NARROWER than '..Said'. Prove '..Said' where nothing that the law and all that it calls make is longer than what came in: it says more and counts as full. Else prove '..UptoSaid'. A law counts once. -/
mutual
def uptoBulk {H : Type} : DataW H → Nat
  | .lit (.string bytes) => bytes.length + 1
  | .lit _ => 1
  | .nil => 1
  | .ptr d => uptoBulk d + 1
  | .slice elems spare => uptoBulkAll elems + uptoBulkAll spare + 1
  | .agg parts => uptoBulkAll parts + 1
  | .iface _ d => uptoBulk d + 1
  | .map entries => uptoBulkEntries entries + 1
  | .held _ => 1
def uptoBulkAll {H : Type} : List (DataW H) → Nat
  | [] => 0
  | d :: r => uptoBulk d + uptoBulkAll r
def uptoBulkEntries {H : Type} : List (Lit × DataW H) → Nat
  | [] => 0
  | x :: r => uptoBulkEntry x + uptoBulkEntries r
def uptoBulkEntry {H : Type} : Lit × DataW H → Nat
  | (.string bytes, d) => bytes.length + uptoBulk d + 1
  | (_, d) => uptoBulk d + 1
 end
def uptoSmall : (H : Type) → List (DataW H) → Bool := fun _ ds => decide (uptoBulkAll ds ≤ 1048576)
def OpenSpec.upto (s : _root_.Go.ChangeSpec) : _root_.Go.OpenSpec := { _root_.Go.OpenSpec.ofChange s with cond := some uptoSmall }

/-- 'laws.FnNearSend', WHERE WHAT IT READS IS OF BULK AT MOST 1048576: true; the input reads as it did. -/
def fnNearSendUptoRow : OpenClaim := { program := "ytdanjfnobanehaa", sum := "b6354c6dc8c98b79e76feb0f9ed1dfeb9342fa2cf13e338946db88e60fde1af2", func := "loop.example/netstack/laws.FnNearSend", spec := "fnNearSend", apart := false, narrowed := true }
def FnNearSendUptoSaid : Prop := fnNearSendUptoRow.holds Try.pinned (OpenSpec.upto fnNearSendSpec)

/-- 'laws.FnNearHear', WHERE WHAT IT READS IS OF BULK AT MOST 1048576: true; the input reads as it did. -/
def fnNearHearUptoRow : OpenClaim := { program := "ytdanjfnobanehaa", sum := "b6354c6dc8c98b79e76feb0f9ed1dfeb9342fa2cf13e338946db88e60fde1af2", func := "loop.example/netstack/laws.FnNearHear", spec := "fnNearHear", apart := false, narrowed := true }
def FnNearHearUptoSaid : Prop := fnNearHearUptoRow.holds Try.pinned (OpenSpec.upto fnNearHearSpec)

/-- 'laws.FnPacketOk', WHERE WHAT IT READS IS OF BULK AT MOST 1048576: true; the input reads as it did. -/
def fnPacketOkUptoRow : OpenClaim := { program := "ytdanjfnobanehaa", sum := "b6354c6dc8c98b79e76feb0f9ed1dfeb9342fa2cf13e338946db88e60fde1af2", func := "loop.example/netstack/laws.FnPacketOk", spec := "fnPacketOk", apart := false, narrowed := true }
def FnPacketOkUptoSaid : Prop := fnPacketOkUptoRow.holds Try.pinned (OpenSpec.upto fnPacketOkSpec)

/-- 'laws.FnPacketBytes', WHERE WHAT IT READS IS OF BULK AT MOST 1048576: true; the input reads as it did. -/
def fnPacketBytesUptoRow : OpenClaim := { program := "ytdanjfnobanehaa", sum := "b6354c6dc8c98b79e76feb0f9ed1dfeb9342fa2cf13e338946db88e60fde1af2", func := "loop.example/netstack/laws.FnPacketBytes", spec := "fnPacketBytes", apart := false, narrowed := true }
def FnPacketBytesUptoSaid : Prop := fnPacketBytesUptoRow.holds Try.pinned (OpenSpec.upto fnPacketBytesSpec)

/-- 'laws.FnPacketFrom', WHERE WHAT IT READS IS OF BULK AT MOST 1048576: true; the input reads as it did. -/
def fnPacketFromUptoRow : OpenClaim := { program := "ytdanjfnobanehaa", sum := "b6354c6dc8c98b79e76feb0f9ed1dfeb9342fa2cf13e338946db88e60fde1af2", func := "loop.example/netstack/laws.FnPacketFrom", spec := "fnPacketFrom", apart := false, narrowed := true }
def FnPacketFromUptoSaid : Prop := fnPacketFromUptoRow.holds Try.pinned (OpenSpec.upto fnPacketFromSpec)

/-- 'laws.FnPacketPassed', WHERE WHAT IT READS IS OF BULK AT MOST 1048576: true; the input reads as it did. -/
def fnPacketPassedUptoRow : OpenClaim := { program := "ytdanjfnobanehaa", sum := "b6354c6dc8c98b79e76feb0f9ed1dfeb9342fa2cf13e338946db88e60fde1af2", func := "loop.example/netstack/laws.FnPacketPassed", spec := "fnPacketPassed", apart := false, narrowed := true }
def FnPacketPassedUptoSaid : Prop := fnPacketPassedUptoRow.holds Try.pinned (OpenSpec.upto fnPacketPassedSpec)

/-- 'laws.FnExactNearSend', WHERE WHAT IT READS IS OF BULK AT MOST 1048576: true; the input reads as it did. -/
def fnExactNearSendUptoRow : OpenClaim := { program := "ytdanjfnobanehaa", sum := "b6354c6dc8c98b79e76feb0f9ed1dfeb9342fa2cf13e338946db88e60fde1af2", func := "loop.example/netstack/laws.FnExactNearSend", spec := "fnExactNearSend", apart := false, narrowed := true }
def FnExactNearSendUptoSaid : Prop := fnExactNearSendUptoRow.holds Try.pinned (OpenSpec.upto fnExactNearSendSpec)

/-- 'laws.FnExactNearHear', WHERE WHAT IT READS IS OF BULK AT MOST 1048576: true; the input reads as it did. -/
def fnExactNearHearUptoRow : OpenClaim := { program := "ytdanjfnobanehaa", sum := "b6354c6dc8c98b79e76feb0f9ed1dfeb9342fa2cf13e338946db88e60fde1af2", func := "loop.example/netstack/laws.FnExactNearHear", spec := "fnExactNearHear", apart := false, narrowed := true }
def FnExactNearHearUptoSaid : Prop := fnExactNearHearUptoRow.holds Try.pinned (OpenSpec.upto fnExactNearHearSpec)

/-- 'laws.FnExactPacketOk', WHERE WHAT IT READS IS OF BULK AT MOST 1048576: true; the input reads as it did. -/
def fnExactPacketOkUptoRow : OpenClaim := { program := "ytdanjfnobanehaa", sum := "b6354c6dc8c98b79e76feb0f9ed1dfeb9342fa2cf13e338946db88e60fde1af2", func := "loop.example/netstack/laws.FnExactPacketOk", spec := "fnExactPacketOk", apart := false, narrowed := true }
def FnExactPacketOkUptoSaid : Prop := fnExactPacketOkUptoRow.holds Try.pinned (OpenSpec.upto fnExactPacketOkSpec)

/-- 'laws.FnExactPacketBytes', WHERE WHAT IT READS IS OF BULK AT MOST 1048576: true; the input reads as it did. -/
def fnExactPacketBytesUptoRow : OpenClaim := { program := "ytdanjfnobanehaa", sum := "b6354c6dc8c98b79e76feb0f9ed1dfeb9342fa2cf13e338946db88e60fde1af2", func := "loop.example/netstack/laws.FnExactPacketBytes", spec := "fnExactPacketBytes", apart := false, narrowed := true }
def FnExactPacketBytesUptoSaid : Prop := fnExactPacketBytesUptoRow.holds Try.pinned (OpenSpec.upto fnExactPacketBytesSpec)

/-- 'laws.FnExactPacketFrom', WHERE WHAT IT READS IS OF BULK AT MOST 1048576: true; the input reads as it did. -/
def fnExactPacketFromUptoRow : OpenClaim := { program := "ytdanjfnobanehaa", sum := "b6354c6dc8c98b79e76feb0f9ed1dfeb9342fa2cf13e338946db88e60fde1af2", func := "loop.example/netstack/laws.FnExactPacketFrom", spec := "fnExactPacketFrom", apart := false, narrowed := true }
def FnExactPacketFromUptoSaid : Prop := fnExactPacketFromUptoRow.holds Try.pinned (OpenSpec.upto fnExactPacketFromSpec)

/-- 'laws.FnExactPacketPassed', WHERE WHAT IT READS IS OF BULK AT MOST 1048576: true; the input reads as it did. -/
def fnExactPacketPassedUptoRow : OpenClaim := { program := "ytdanjfnobanehaa", sum := "b6354c6dc8c98b79e76feb0f9ed1dfeb9342fa2cf13e338946db88e60fde1af2", func := "loop.example/netstack/laws.FnExactPacketPassed", spec := "fnExactPacketPassed", apart := false, narrowed := true }
def FnExactPacketPassedUptoSaid : Prop := fnExactPacketPassedUptoRow.holds Try.pinned (OpenSpec.upto fnExactPacketPassedSpec)

end Rows
end Go.Proofs.Ytdanjfnobanehaa
