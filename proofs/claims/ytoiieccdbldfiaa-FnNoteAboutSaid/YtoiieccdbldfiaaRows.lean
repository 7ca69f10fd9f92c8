/-
  No cell of these rows narrows 'for every input' (looked for: loops, veiled, ifaces, maps, wideKeys, modest, calm, conditions, laid).
  DERIVED. THE GIVEN ROWS OF THIS SEAT. 12 by the template 'for every input the law returns true; each argument reads behind the call as it read before'; 0 by the template 'total and deterministic' (their statements: YtoiieccdbldfiaaTotals.lean).
  GIVEN WITH THE SEED: the statements are not yours to turn. If you find one false, say at which input.
  Laid BY PROGRAM, IN A SANDBOX (cutbox-rows.mjs): the forced cells as the released guide's own fill.sh prints them over the translation 4673e1895ad5279c… (all of the seat's roots in one cut). By AI agents, Wed Nov 11 2026. No macro, syntax, notation, axiom, sorry.
-/
import Derived.Test.YtoiieccdbldfiaaChecked
import GoSem.Claim
import GoSem.ClaimJoined
import GoSem.ClaimMapViews
import Derived.JoinedTies
import Derived.KernelRfl
namespace Go.Proofs.Ytoiieccdbldfiaa
/- THE CELL 'sum', in the pinned program and in every row, IS THE sha256 OF THE DUMP (.gsa) THAT YtoiieccdbldfiaaProg.lean LOADS. Nothing in Lean hashes anything: it is a label: what it is worth is what the hold of that sum in a sandbox is worth. -/
noncomputable def Try.pinned : Pinned := { name := "ytoiieccdbldfiaa", sum := "4673e1895ad5279c38153182a9adbba22279a4eb3058a998caf533b222e4e29b", checked := Try.checked }
namespace Rows
def none {H : Type} : Left H := { results := [], args := [] }

/-- 'laws.FnExactNoteOk': WHATEVER THE INPUT: true; the input reads as it did. -/
def fnExactNoteOkSpec : ChangeSpec := { name := "fnExactNoteOk", fn := fun _ => fun
  | [d] => { results := [.lit (.bool true)], args := [d] }
  | _ => none }
def fnExactNoteOkRow : OpenClaim := { program := "ytoiieccdbldfiaa", sum := "4673e1895ad5279c38153182a9adbba22279a4eb3058a998caf533b222e4e29b", func := "loop.example/netstack/laws.FnExactNoteOk", spec := "fnExactNoteOk", apart := false }
def FnExactNoteOkSaid : Prop := fnExactNoteOkRow.holds Try.pinned (OpenSpec.ofChange fnExactNoteOkSpec)

/-- ITS FALSE NEIGHBOUR: 'it returns false'. Refute it at one input. -/
def fnExactNoteOkWrong : ChangeSpec := { name := "fnExactNoteOk", fn := fun _ => fun
  | [d] => { results := [.lit (.bool false)], args := [d] }
  | _ => none }
def FnExactNoteOkWrongFalsely : Prop := fnExactNoteOkRow.holds Try.pinned (OpenSpec.ofChange fnExactNoteOkWrong)

/-- 'laws.FnExactNoteBytes': WHATEVER THE INPUT: true; the input reads as it did. -/
def fnExactNoteBytesSpec : ChangeSpec := { name := "fnExactNoteBytes", fn := fun _ => fun
  | [d] => { results := [.lit (.bool true)], args := [d] }
  | _ => none }
def fnExactNoteBytesRow : OpenClaim := { program := "ytoiieccdbldfiaa", sum := "4673e1895ad5279c38153182a9adbba22279a4eb3058a998caf533b222e4e29b", func := "loop.example/netstack/laws.FnExactNoteBytes", spec := "fnExactNoteBytes", apart := false }
def FnExactNoteBytesSaid : Prop := fnExactNoteBytesRow.holds Try.pinned (OpenSpec.ofChange fnExactNoteBytesSpec)

/-- ITS FALSE NEIGHBOUR: 'it returns false'. Refute it at one input. -/
def fnExactNoteBytesWrong : ChangeSpec := { name := "fnExactNoteBytes", fn := fun _ => fun
  | [d] => { results := [.lit (.bool false)], args := [d] }
  | _ => none }
def FnExactNoteBytesWrongFalsely : Prop := fnExactNoteBytesRow.holds Try.pinned (OpenSpec.ofChange fnExactNoteBytesWrong)

/-- 'laws.FnExactNoteFrom': WHATEVER THE INPUT: true; the input reads as it did. -/
def fnExactNoteFromSpec : ChangeSpec := { name := "fnExactNoteFrom", fn := fun _ => fun
  | [d] => { results := [.lit (.bool true)], args := [d] }
  | _ => none }
def fnExactNoteFromRow : OpenClaim := { program := "ytoiieccdbldfiaa", sum := "4673e1895ad5279c38153182a9adbba22279a4eb3058a998caf533b222e4e29b", func := "loop.example/netstack/laws.FnExactNoteFrom", spec := "fnExactNoteFrom", apart := false }
def FnExactNoteFromSaid : Prop := fnExactNoteFromRow.holds Try.pinned (OpenSpec.ofChange fnExactNoteFromSpec)

/-- ITS FALSE NEIGHBOUR: 'it returns false'. Refute it at one input. -/
def fnExactNoteFromWrong : ChangeSpec := { name := "fnExactNoteFrom", fn := fun _ => fun
  | [d] => { results := [.lit (.bool false)], args := [d] }
  | _ => none }
def FnExactNoteFromWrongFalsely : Prop := fnExactNoteFromRow.holds Try.pinned (OpenSpec.ofChange fnExactNoteFromWrong)

/-- 'laws.FnExactNoteFault': WHATEVER THE INPUT: true; the input reads as it did. -/
def fnExactNoteFaultSpec : ChangeSpec := { name := "fnExactNoteFault", fn := fun _ => fun
  | [d] => { results := [.lit (.bool true)], args := [d] }
  | _ => none }
def fnExactNoteFaultRow : OpenClaim := { program := "ytoiieccdbldfiaa", sum := "4673e1895ad5279c38153182a9adbba22279a4eb3058a998caf533b222e4e29b", func := "loop.example/netstack/laws.FnExactNoteFault", spec := "fnExactNoteFault", apart := false }
def FnExactNoteFaultSaid : Prop := fnExactNoteFaultRow.holds Try.pinned (OpenSpec.ofChange fnExactNoteFaultSpec)

/-- ITS FALSE NEIGHBOUR: 'it returns false'. Refute it at one input. -/
def fnExactNoteFaultWrong : ChangeSpec := { name := "fnExactNoteFault", fn := fun _ => fun
  | [d] => { results := [.lit (.bool false)], args := [d] }
  | _ => none }
def FnExactNoteFaultWrongFalsely : Prop := fnExactNoteFaultRow.holds Try.pinned (OpenSpec.ofChange fnExactNoteFaultWrong)

/-- 'laws.FnExactNoteAbout': WHATEVER THE INPUT: true; the input reads as it did. -/
def fnExactNoteAboutSpec : ChangeSpec := { name := "fnExactNoteAbout", fn := fun _ => fun
  | [d1, d2, d3, d4] => { results := [.lit (.bool true)], args := [d1, d2, d3, d4] }
  | _ => none }
def fnExactNoteAboutRow : OpenClaim := { program := "ytoiieccdbldfiaa", sum := "4673e1895ad5279c38153182a9adbba22279a4eb3058a998caf533b222e4e29b", func := "loop.example/netstack/laws.FnExactNoteAbout", spec := "fnExactNoteAbout", apart := false }
def FnExactNoteAboutSaid : Prop := fnExactNoteAboutRow.holds Try.pinned (OpenSpec.ofChange fnExactNoteAboutSpec)

/-- ITS FALSE NEIGHBOUR: 'it returns false'. Refute it at one input. -/
def fnExactNoteAboutWrong : ChangeSpec := { name := "fnExactNoteAbout", fn := fun _ => fun
  | [d1, d2, d3, d4] => { results := [.lit (.bool false)], args := [d1, d2, d3, d4] }
  | _ => none }
def FnExactNoteAboutWrongFalsely : Prop := fnExactNoteAboutRow.holds Try.pinned (OpenSpec.ofChange fnExactNoteAboutWrong)

/-- 'laws.FnExactNoteEchoed': WHATEVER THE INPUT: true; the input reads as it did. -/
def fnExactNoteEchoedSpec : ChangeSpec := { name := "fnExactNoteEchoed", fn := fun _ => fun
  | [d1, d2] => { results := [.lit (.bool true)], args := [d1, d2] }
  | _ => none }
def fnExactNoteEchoedRow : OpenClaim := { program := "ytoiieccdbldfiaa", sum := "4673e1895ad5279c38153182a9adbba22279a4eb3058a998caf533b222e4e29b", func := "loop.example/netstack/laws.FnExactNoteEchoed", spec := "fnExactNoteEchoed", apart := false }
def FnExactNoteEchoedSaid : Prop := fnExactNoteEchoedRow.holds Try.pinned (OpenSpec.ofChange fnExactNoteEchoedSpec)

/-- ITS FALSE NEIGHBOUR: 'it returns false'. Refute it at one input. -/
def fnExactNoteEchoedWrong : ChangeSpec := { name := "fnExactNoteEchoed", fn := fun _ => fun
  | [d1, d2] => { results := [.lit (.bool false)], args := [d1, d2] }
  | _ => none }
def FnExactNoteEchoedWrongFalsely : Prop := fnExactNoteEchoedRow.holds Try.pinned (OpenSpec.ofChange fnExactNoteEchoedWrong)

/-- 'laws.FnNoteOk': WHATEVER THE INPUT: true; the input reads as it did. -/
def fnNoteOkSpec : ChangeSpec := { name := "fnNoteOk", fn := fun _ => fun
  | [d] => { results := [.lit (.bool true)], args := [d] }
  | _ => none }
def fnNoteOkRow : OpenClaim := { program := "ytoiieccdbldfiaa", sum := "4673e1895ad5279c38153182a9adbba22279a4eb3058a998caf533b222e4e29b", func := "loop.example/netstack/laws.FnNoteOk", spec := "fnNoteOk", apart := false }
def FnNoteOkSaid : Prop := fnNoteOkRow.holds Try.pinned (OpenSpec.ofChange fnNoteOkSpec)

/-- ITS FALSE NEIGHBOUR: 'it returns false'. Refute it at one input. -/
def fnNoteOkWrong : ChangeSpec := { name := "fnNoteOk", fn := fun _ => fun
  | [d] => { results := [.lit (.bool false)], args := [d] }
  | _ => none }
def FnNoteOkWrongFalsely : Prop := fnNoteOkRow.holds Try.pinned (OpenSpec.ofChange fnNoteOkWrong)

/-- 'laws.FnNoteBytes': WHATEVER THE INPUT: true; the input reads as it did. -/
def fnNoteBytesSpec : ChangeSpec := { name := "fnNoteBytes", fn := fun _ => fun
  | [d] => { results := [.lit (.bool true)], args := [d] }
  | _ => none }
def fnNoteBytesRow : OpenClaim := { program := "ytoiieccdbldfiaa", sum := "4673e1895ad5279c38153182a9adbba22279a4eb3058a998caf533b222e4e29b", func := "loop.example/netstack/laws.FnNoteBytes", spec := "fnNoteBytes", apart := false }
def FnNoteBytesSaid : Prop := fnNoteBytesRow.holds Try.pinned (OpenSpec.ofChange fnNoteBytesSpec)

/-- ITS FALSE NEIGHBOUR: 'it returns false'. Refute it at one input. -/
def fnNoteBytesWrong : ChangeSpec := { name := "fnNoteBytes", fn := fun _ => fun
  | [d] => { results := [.lit (.bool false)], args := [d] }
  | _ => none }
def FnNoteBytesWrongFalsely : Prop := fnNoteBytesRow.holds Try.pinned (OpenSpec.ofChange fnNoteBytesWrong)

/-- 'laws.FnNoteFrom': WHATEVER THE INPUT: true; the input reads as it did. -/
def fnNoteFromSpec : ChangeSpec := { name := "fnNoteFrom", fn := fun _ => fun
  | [d] => { results := [.lit (.bool true)], args := [d] }
  | _ => none }
def fnNoteFromRow : OpenClaim := { program := "ytoiieccdbldfiaa", sum := "4673e1895ad5279c38153182a9adbba22279a4eb3058a998caf533b222e4e29b", func := "loop.example/netstack/laws.FnNoteFrom", spec := "fnNoteFrom", apart := false }
def FnNoteFromSaid : Prop := fnNoteFromRow.holds Try.pinned (OpenSpec.ofChange fnNoteFromSpec)

/-- ITS FALSE NEIGHBOUR: 'it returns false'. Refute it at one input. -/
def fnNoteFromWrong : ChangeSpec := { name := "fnNoteFrom", fn := fun _ => fun
  | [d] => { results := [.lit (.bool false)], args := [d] }
  | _ => none }
def FnNoteFromWrongFalsely : Prop := fnNoteFromRow.holds Try.pinned (OpenSpec.ofChange fnNoteFromWrong)

/-- 'laws.FnNoteFault': WHATEVER THE INPUT: true; the input reads as it did. -/
def fnNoteFaultSpec : ChangeSpec := { name := "fnNoteFault", fn := fun _ => fun
  | [d] => { results := [.lit (.bool true)], args := [d] }
  | _ => none }
def fnNoteFaultRow : OpenClaim := { program := "ytoiieccdbldfiaa", sum := "4673e1895ad5279c38153182a9adbba22279a4eb3058a998caf533b222e4e29b", func := "loop.example/netstack/laws.FnNoteFault", spec := "fnNoteFault", apart := false }
def FnNoteFaultSaid : Prop := fnNoteFaultRow.holds Try.pinned (OpenSpec.ofChange fnNoteFaultSpec)

/-- ITS FALSE NEIGHBOUR: 'it returns false'. Refute it at one input. -/
def fnNoteFaultWrong : ChangeSpec := { name := "fnNoteFault", fn := fun _ => fun
  | [d] => { results := [.lit (.bool false)], args := [d] }
  | _ => none }
def FnNoteFaultWrongFalsely : Prop := fnNoteFaultRow.holds Try.pinned (OpenSpec.ofChange fnNoteFaultWrong)

/-- 'laws.FnNoteAbout': WHATEVER THE INPUT: true; the input reads as it did. -/
def fnNoteAboutSpec : ChangeSpec := { name := "fnNoteAbout", fn := fun _ => fun
  | [d] => { results := [.lit (.bool true)], args := [d] }
  | _ => none }
def fnNoteAboutRow : OpenClaim := { program := "ytoiieccdbldfiaa", sum := "4673e1895ad5279c38153182a9adbba22279a4eb3058a998caf533b222e4e29b", func := "loop.example/netstack/laws.FnNoteAbout", spec := "fnNoteAbout", apart := false }
def FnNoteAboutSaid : Prop := fnNoteAboutRow.holds Try.pinned (OpenSpec.ofChange fnNoteAboutSpec)

/-- ITS FALSE NEIGHBOUR: 'it returns false'. Refute it at one input. -/
def fnNoteAboutWrong : ChangeSpec := { name := "fnNoteAbout", fn := fun _ => fun
  | [d] => { results := [.lit (.bool false)], args := [d] }
  | _ => none }
def FnNoteAboutWrongFalsely : Prop := fnNoteAboutRow.holds Try.pinned (OpenSpec.ofChange fnNoteAboutWrong)

/-- 'laws.FnNoteEchoed': WHATEVER THE INPUT: true; the input reads as it did. -/
def fnNoteEchoedSpec : ChangeSpec := { name := "fnNoteEchoed", fn := fun _ => fun
  | [d] => { results := [.lit (.bool true)], args := [d] }
  | _ => none }
def fnNoteEchoedRow : OpenClaim := { program := "ytoiieccdbldfiaa", sum := "4673e1895ad5279c38153182a9adbba22279a4eb3058a998caf533b222e4e29b", func := "loop.example/netstack/laws.FnNoteEchoed", spec := "fnNoteEchoed", apart := false }
def FnNoteEchoedSaid : Prop := fnNoteEchoedRow.holds Try.pinned (OpenSpec.ofChange fnNoteEchoedSpec)

/-- ITS FALSE NEIGHBOUR: 'it returns false'. Refute it at one input. -/
def fnNoteEchoedWrong : ChangeSpec := { name := "fnNoteEchoed", fn := fun _ => fun
  | [d] => { results := [.lit (.bool false)], args := [d] }
  | _ => none }
def FnNoteEchoedWrongFalsely : Prop := fnNoteEchoedRow.holds Try.pinned (OpenSpec.ofChange fnNoteEchoedWrong)

/- THE SECOND FORM. 'bulk': how many values and letters a reading holds, each counted each time it is reached (what is shared counts as often as it is met; a slice's spare places count too). A statement '..UptoSaid' is the law's where the arguments, and the package variables that the reading takes, are together of bulk at most 1048576: NARROWER than '..Said'. Prove '..Said' where nothing that the law and all that it calls make is longer than what came in: it says more and counts as full. Else prove '..UptoSaid'. A law counts once. -/
mutual
def uptoBulk {H : Type} : DataW H → Nat
  | .lit (.string bytes) => bytes.length + 1
  | .lit _ => 1
  | .nil => 1
  | .ptr d => uptoBulk d + 1
  | .slice elems spare => uptoBulkAll elems + uptoBulkAll spare + 1
  | .agg parts => uptoBulkAll parts + 1
  | .iface _ d => uptoBulk d + 1
  | .map entries => uptoBulkEntries entries + 1
  | .held _ => 1
def uptoBulkAll {H : Type} : List (DataW H) → Nat
  | [] => 0
  | d :: r => uptoBulk d + uptoBulkAll r
def uptoBulkEntries {H : Type} : List (Lit × DataW H) → Nat
  | [] => 0
  | x :: r => uptoBulkEntry x + uptoBulkEntries r
def uptoBulkEntry {H : Type} : Lit × DataW H → Nat
  | (.string bytes, d) => bytes.length + uptoBulk d + 1
  | (_, d) => uptoBulk d + 1
 end
def uptoSmall : (H : Type) → List (DataW H) → Bool := fun _ ds => decide (uptoBulkAll ds ≤ 1048576)
def OpenSpec.upto (s : _root_.Go.ChangeSpec) : _root_.Go.OpenSpec := { _root_.Go.OpenSpec.ofChange s with cond := some uptoSmall }

/-- 'laws.FnExactNoteOk', WHERE WHAT IT READS IS OF BULK AT MOST 1048576: true; the input reads as it did. -/
def fnExactNoteOkUptoRow : OpenClaim := { program := "ytoiieccdbldfiaa", sum := "4673e1895ad5279c38153182a9adbba22279a4eb3058a998caf533b222e4e29b", func := "loop.example/netstack/laws.FnExactNoteOk", spec := "fnExactNoteOk", apart := false, narrowed := true }
def FnExactNoteOkUptoSaid : Prop := fnExactNoteOkUptoRow.holds Try.pinned (OpenSpec.upto fnExactNoteOkSpec)

/-- 'laws.FnExactNoteBytes', WHERE WHAT IT READS IS OF BULK AT MOST 1048576: true; the input reads as it did. -/
def fnExactNoteBytesUptoRow : OpenClaim := { program := "ytoiieccdbldfiaa", sum := "4673e1895ad5279c38153182a9adbba22279a4eb3058a998caf533b222e4e29b", func := "loop.example/netstack/laws.FnExactNoteBytes", spec := "fnExactNoteBytes", apart := false, narrowed := true }
def FnExactNoteBytesUptoSaid : Prop := fnExactNoteBytesUptoRow.holds Try.pinned (OpenSpec.upto fnExactNoteBytesSpec)

/-- 'laws.FnExactNoteFrom', WHERE WHAT IT READS IS OF BULK AT MOST 1048576: true; the input reads as it did. -/
def fnExactNoteFromUptoRow : OpenClaim := { program := "ytoiieccdbldfiaa", sum := "4673e1895ad5279c38153182a9adbba22279a4eb3058a998caf533b222e4e29b", func := "loop.example/netstack/laws.FnExactNoteFrom", spec := "fnExactNoteFrom", apart := false, narrowed := true }
def FnExactNoteFromUptoSaid : Prop := fnExactNoteFromUptoRow.holds Try.pinned (OpenSpec.upto fnExactNoteFromSpec)

/-- 'laws.FnExactNoteFault', WHERE WHAT IT READS IS OF BULK AT MOST 1048576: true; the input reads as it did. -/
def fnExactNoteFaultUptoRow : OpenClaim := { program := "ytoiieccdbldfiaa", sum := "4673e1895ad5279c38153182a9adbba22279a4eb3058a998caf533b222e4e29b", func := "loop.example/netstack/laws.FnExactNoteFault", spec := "fnExactNoteFault", apart := false, narrowed := true }
def FnExactNoteFaultUptoSaid : Prop := fnExactNoteFaultUptoRow.holds Try.pinned (OpenSpec.upto fnExactNoteFaultSpec)

/-- 'laws.FnExactNoteAbout', WHERE WHAT IT READS IS OF BULK AT MOST 1048576: true; the input reads as it did. -/
def fnExactNoteAboutUptoRow : OpenClaim := { program := "ytoiieccdbldfiaa", sum := "4673e1895ad5279c38153182a9adbba22279a4eb3058a998caf533b222e4e29b", func := "loop.example/netstack/laws.FnExactNoteAbout", spec := "fnExactNoteAbout", apart := false, narrowed := true }
def FnExactNoteAboutUptoSaid : Prop := fnExactNoteAboutUptoRow.holds Try.pinned (OpenSpec.upto fnExactNoteAboutSpec)

/-- 'laws.FnExactNoteEchoed', WHERE WHAT IT READS IS OF BULK AT MOST 1048576: true; the input reads as it did. -/
def fnExactNoteEchoedUptoRow : OpenClaim := { program := "ytoiieccdbldfiaa", sum := "4673e1895ad5279c38153182a9adbba22279a4eb3058a998caf533b222e4e29b", func := "loop.example/netstack/laws.FnExactNoteEchoed", spec := "fnExactNoteEchoed", apart := false, narrowed := true }
def FnExactNoteEchoedUptoSaid : Prop := fnExactNoteEchoedUptoRow.holds Try.pinned (OpenSpec.upto fnExactNoteEchoedSpec)

/-- 'laws.FnNoteOk', WHERE WHAT IT READS IS OF BULK AT MOST 1048576: true; the input reads as it did. -/
def fnNoteOkUptoRow : OpenClaim := { program := "ytoiieccdbldfiaa", sum := "4673e1895ad5279c38153182a9adbba22279a4eb3058a998caf533b222e4e29b", func := "loop.example/netstack/laws.FnNoteOk", spec := "fnNoteOk", apart := false, narrowed := true }
def FnNoteOkUptoSaid : Prop := fnNoteOkUptoRow.holds Try.pinned (OpenSpec.upto fnNoteOkSpec)

/-- 'laws.FnNoteBytes', WHERE WHAT IT READS IS OF BULK AT MOST 1048576: true; the input reads as it did. -/
def fnNoteBytesUptoRow : OpenClaim := { program := "ytoiieccdbldfiaa", sum := "4673e1895ad5279c38153182a9adbba22279a4eb3058a998caf533b222e4e29b", func := "loop.example/netstack/laws.FnNoteBytes", spec := "fnNoteBytes", apart := false, narrowed := true }
def FnNoteBytesUptoSaid : Prop := fnNoteBytesUptoRow.holds Try.pinned (OpenSpec.upto fnNoteBytesSpec)

/-- 'laws.FnNoteFrom', WHERE WHAT IT READS IS OF BULK AT MOST 1048576: true; the input reads as it did. -/
def fnNoteFromUptoRow : OpenClaim := { program := "ytoiieccdbldfiaa", sum := "4673e1895ad5279c38153182a9adbba22279a4eb3058a998caf533b222e4e29b", func := "loop.example/netstack/laws.FnNoteFrom", spec := "fnNoteFrom", apart := false, narrowed := true }
def FnNoteFromUptoSaid : Prop := fnNoteFromUptoRow.holds Try.pinned (OpenSpec.upto fnNoteFromSpec)

/-- 'laws.FnNoteFault', WHERE WHAT IT READS IS OF BULK AT MOST 1048576: true; the input reads as it did. -/
def fnNoteFaultUptoRow : OpenClaim := { program := "ytoiieccdbldfiaa", sum := "4673e1895ad5279c38153182a9adbba22279a4eb3058a998caf533b222e4e29b", func := "loop.example/netstack/laws.FnNoteFault", spec := "fnNoteFault", apart := false, narrowed := true }
def FnNoteFaultUptoSaid : Prop := fnNoteFaultUptoRow.holds Try.pinned (OpenSpec.upto fnNoteFaultSpec)

/-- 'laws.FnNoteAbout', WHERE WHAT IT READS IS OF BULK AT MOST 1048576: true; the input reads as it did. -/
def fnNoteAboutUptoRow : OpenClaim := { program := "ytoiieccdbldfiaa", sum := "4673e1895ad5279c38153182a9adbba22279a4eb3058a998caf533b222e4e29b", func := "loop.example/netstack/laws.FnNoteAbout", spec := "fnNoteAbout", apart := false, narrowed := true }
def FnNoteAboutUptoSaid : Prop := fnNoteAboutUptoRow.holds Try.pinned (OpenSpec.upto fnNoteAboutSpec)

/-- 'laws.FnNoteEchoed', WHERE WHAT IT READS IS OF BULK AT MOST 1048576: true; the input reads as it did. -/
def fnNoteEchoedUptoRow : OpenClaim := { program := "ytoiieccdbldfiaa", sum := "4673e1895ad5279c38153182a9adbba22279a4eb3058a998caf533b222e4e29b", func := "loop.example/netstack/laws.FnNoteEchoed", spec := "fnNoteEchoed", apart := false, narrowed := true }
def FnNoteEchoedUptoSaid : Prop := fnNoteEchoedUptoRow.holds Try.pinned (OpenSpec.upto fnNoteEchoedSpec)

end Rows
end Go.Proofs.Ytoiieccdbldfiaa
