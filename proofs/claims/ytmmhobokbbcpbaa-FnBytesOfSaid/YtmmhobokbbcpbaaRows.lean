/-
  No cell of these rows narrows 'for every input' (looked for: loops, veiled, ifaces, maps, wideKeys, modest, calm, conditions, laid).
  DERIVED. THE GIVEN ROWS OF THIS SEAT. 10 by the template 'for every input the law returns true; each argument reads behind the call as it read before'; 0 by the template 'total and deterministic' (their statements: YtmmhobokbbcpbaaTotals.lean).
  GIVEN WITH THE SEED: the statements are not yours to turn. If you find one false, say at which input.
  Laid BY PROGRAM, IN A SANDBOX (cutbox-rows.mjs): the forced cells as the released guide's own fill.sh prints them over the translation 2a6b2462fa1fb1f9… (all of the seat's roots in one cut). By AI agents, Wed Nov 11 2026. No macro, syntax, notation, axiom, sorry.
-/
import Derived.Test.YtmmhobokbbcpbaaChecked
import GoSem.Claim
import GoSem.ClaimJoined
import GoSem.ClaimMapViews
import Derived.JoinedTies
import Derived.KernelRfl
namespace Go.Proofs.Ytmmhobokbbcpbaa
/- THE CELL 'sum', in the pinned program and in every row, IS THE sha256 OF THE DUMP (.gsa) THAT YtmmhobokbbcpbaaProg.lean LOADS. Nothing in Lean hashes anything: it is a label: what it is worth is what the hold of that sum in a sandbox is worth. -/
noncomputable def Try.pinned : Pinned := { name := "ytmmhobokbbcpbaa", sum := "2a6b2462fa1fb1f906f19394184860ff7efcde0201f058dc7cf022cdb12ba07d", checked := Try.checked }
namespace Rows
def none {H : Type} : Left H := { results := [], args := [] }

/-- 'laws.FnBytesOf': WHATEVER THE INPUT: true; the input reads as it did. -/
def fnBytesOfSpec : ChangeSpec := { name := "fnBytesOf", fn := fun _ => fun
  | [d] => { results := [.lit (.bool true)], args := [d] }
  | _ => none }
def fnBytesOfRow : OpenClaim := { program := "ytmmhobokbbcpbaa", sum := "2a6b2462fa1fb1f906f19394184860ff7efcde0201f058dc7cf022cdb12ba07d", func := "loop.example/netstack/laws.FnBytesOf", spec := "fnBytesOf", apart := false }
def FnBytesOfSaid : Prop := fnBytesOfRow.holds Try.pinned (OpenSpec.ofChange fnBytesOfSpec)

/-- ITS FALSE NEIGHBOUR: 'it returns false'. Refute it at one input. -/
def fnBytesOfWrong : ChangeSpec := { name := "fnBytesOf", fn := fun _ => fun
  | [d] => { results := [.lit (.bool false)], args := [d] }
  | _ => none }
def FnBytesOfWrongFalsely : Prop := fnBytesOfRow.holds Try.pinned (OpenSpec.ofChange fnBytesOfWrong)

/-- 'laws.FnNumberAt': WHATEVER THE INPUT: true; the input reads as it did. -/
def fnNumberAtSpec : ChangeSpec := { name := "fnNumberAt", fn := fun _ => fun
  | [d] => { results := [.lit (.bool true)], args := [d] }
  | _ => none }
def fnNumberAtRow : OpenClaim := { program := "ytmmhobokbbcpbaa", sum := "2a6b2462fa1fb1f906f19394184860ff7efcde0201f058dc7cf022cdb12ba07d", func := "loop.example/netstack/laws.FnNumberAt", spec := "fnNumberAt", apart := false }
def FnNumberAtSaid : Prop := fnNumberAtRow.holds Try.pinned (OpenSpec.ofChange fnNumberAtSpec)

/-- ITS FALSE NEIGHBOUR: 'it returns false'. Refute it at one input. -/
def fnNumberAtWrong : ChangeSpec := { name := "fnNumberAt", fn := fun _ => fun
  | [d] => { results := [.lit (.bool false)], args := [d] }
  | _ => none }
def FnNumberAtWrongFalsely : Prop := fnNumberAtRow.holds Try.pinned (OpenSpec.ofChange fnNumberAtWrong)

/-- 'laws.FnSumOf': WHATEVER THE INPUT: true; the input reads as it did. -/
def fnSumOfSpec : ChangeSpec := { name := "fnSumOf", fn := fun _ => fun
  | [d] => { results := [.lit (.bool true)], args := [d] }
  | _ => none }
def fnSumOfRow : OpenClaim := { program := "ytmmhobokbbcpbaa", sum := "2a6b2462fa1fb1f906f19394184860ff7efcde0201f058dc7cf022cdb12ba07d", func := "loop.example/netstack/laws.FnSumOf", spec := "fnSumOf", apart := false }
def FnSumOfSaid : Prop := fnSumOfRow.holds Try.pinned (OpenSpec.ofChange fnSumOfSpec)

/-- ITS FALSE NEIGHBOUR: 'it returns false'. Refute it at one input. -/
def fnSumOfWrong : ChangeSpec := { name := "fnSumOf", fn := fun _ => fun
  | [d] => { results := [.lit (.bool false)], args := [d] }
  | _ => none }
def FnSumOfWrongFalsely : Prop := fnSumOfRow.holds Try.pinned (OpenSpec.ofChange fnSumOfWrong)

/-- 'laws.FnSumFits': WHATEVER THE INPUT: true; the input reads as it did. -/
def fnSumFitsSpec : ChangeSpec := { name := "fnSumFits", fn := fun _ => fun
  | [d] => { results := [.lit (.bool true)], args := [d] }
  | _ => none }
def fnSumFitsRow : OpenClaim := { program := "ytmmhobokbbcpbaa", sum := "2a6b2462fa1fb1f906f19394184860ff7efcde0201f058dc7cf022cdb12ba07d", func := "loop.example/netstack/laws.FnSumFits", spec := "fnSumFits", apart := false }
def FnSumFitsSaid : Prop := fnSumFitsRow.holds Try.pinned (OpenSpec.ofChange fnSumFitsSpec)

/-- ITS FALSE NEIGHBOUR: 'it returns false'. Refute it at one input. -/
def fnSumFitsWrong : ChangeSpec := { name := "fnSumFits", fn := fun _ => fun
  | [d] => { results := [.lit (.bool false)], args := [d] }
  | _ => none }
def FnSumFitsWrongFalsely : Prop := fnSumFitsRow.holds Try.pinned (OpenSpec.ofChange fnSumFitsWrong)

/-- 'laws.FnSumTurned': WHATEVER THE INPUT: true; the input reads as it did. -/
def fnSumTurnedSpec : ChangeSpec := { name := "fnSumTurned", fn := fun _ => fun
  | [d] => { results := [.lit (.bool true)], args := [d] }
  | _ => none }
def fnSumTurnedRow : OpenClaim := { program := "ytmmhobokbbcpbaa", sum := "2a6b2462fa1fb1f906f19394184860ff7efcde0201f058dc7cf022cdb12ba07d", func := "loop.example/netstack/laws.FnSumTurned", spec := "fnSumTurned", apart := false }
def FnSumTurnedSaid : Prop := fnSumTurnedRow.holds Try.pinned (OpenSpec.ofChange fnSumTurnedSpec)

/-- ITS FALSE NEIGHBOUR: 'it returns false'. Refute it at one input. -/
def fnSumTurnedWrong : ChangeSpec := { name := "fnSumTurned", fn := fun _ => fun
  | [d] => { results := [.lit (.bool false)], args := [d] }
  | _ => none }
def FnSumTurnedWrongFalsely : Prop := fnSumTurnedRow.holds Try.pinned (OpenSpec.ofChange fnSumTurnedWrong)

/-- 'laws.FnExactBytesOf': WHATEVER THE INPUT: true; the input reads as it did. -/
def fnExactBytesOfSpec : ChangeSpec := { name := "fnExactBytesOf", fn := fun _ => fun
  | [d1, d2] => { results := [.lit (.bool true)], args := [d1, d2] }
  | _ => none }
def fnExactBytesOfRow : OpenClaim := { program := "ytmmhobokbbcpbaa", sum := "2a6b2462fa1fb1f906f19394184860ff7efcde0201f058dc7cf022cdb12ba07d", func := "loop.example/netstack/laws.FnExactBytesOf", spec := "fnExactBytesOf", apart := false }
def FnExactBytesOfSaid : Prop := fnExactBytesOfRow.holds Try.pinned (OpenSpec.ofChange fnExactBytesOfSpec)

/-- ITS FALSE NEIGHBOUR: 'it returns false'. Refute it at one input. -/
def fnExactBytesOfWrong : ChangeSpec := { name := "fnExactBytesOf", fn := fun _ => fun
  | [d1, d2] => { results := [.lit (.bool false)], args := [d1, d2] }
  | _ => none }
def FnExactBytesOfWrongFalsely : Prop := fnExactBytesOfRow.holds Try.pinned (OpenSpec.ofChange fnExactBytesOfWrong)

/-- 'laws.FnExactNumberAt': WHATEVER THE INPUT: true; the input reads as it did. -/
def fnExactNumberAtSpec : ChangeSpec := { name := "fnExactNumberAt", fn := fun _ => fun
  | [d1, d2, d3] => { results := [.lit (.bool true)], args := [d1, d2, d3] }
  | _ => none }
def fnExactNumberAtRow : OpenClaim := { program := "ytmmhobokbbcpbaa", sum := "2a6b2462fa1fb1f906f19394184860ff7efcde0201f058dc7cf022cdb12ba07d", func := "loop.example/netstack/laws.FnExactNumberAt", spec := "fnExactNumberAt", apart := false }
def FnExactNumberAtSaid : Prop := fnExactNumberAtRow.holds Try.pinned (OpenSpec.ofChange fnExactNumberAtSpec)

/-- ITS FALSE NEIGHBOUR: 'it returns false'. Refute it at one input. -/
def fnExactNumberAtWrong : ChangeSpec := { name := "fnExactNumberAt", fn := fun _ => fun
  | [d1, d2, d3] => { results := [.lit (.bool false)], args := [d1, d2, d3] }
  | _ => none }
def FnExactNumberAtWrongFalsely : Prop := fnExactNumberAtRow.holds Try.pinned (OpenSpec.ofChange fnExactNumberAtWrong)

/-- 'laws.FnExactSumOf': WHATEVER THE INPUT: true; the input reads as it did. -/
def fnExactSumOfSpec : ChangeSpec := { name := "fnExactSumOf", fn := fun _ => fun
  | [d] => { results := [.lit (.bool true)], args := [d] }
  | _ => none }
def fnExactSumOfRow : OpenClaim := { program := "ytmmhobokbbcpbaa", sum := "2a6b2462fa1fb1f906f19394184860ff7efcde0201f058dc7cf022cdb12ba07d", func := "loop.example/netstack/laws.FnExactSumOf", spec := "fnExactSumOf", apart := false }
def FnExactSumOfSaid : Prop := fnExactSumOfRow.holds Try.pinned (OpenSpec.ofChange fnExactSumOfSpec)

/-- ITS FALSE NEIGHBOUR: 'it returns false'. Refute it at one input. -/
def fnExactSumOfWrong : ChangeSpec := { name := "fnExactSumOf", fn := fun _ => fun
  | [d] => { results := [.lit (.bool false)], args := [d] }
  | _ => none }
def FnExactSumOfWrongFalsely : Prop := fnExactSumOfRow.holds Try.pinned (OpenSpec.ofChange fnExactSumOfWrong)

/-- 'laws.FnExactSumFits': WHATEVER THE INPUT: true; the input reads as it did. -/
def fnExactSumFitsSpec : ChangeSpec := { name := "fnExactSumFits", fn := fun _ => fun
  | [d1, d2] => { results := [.lit (.bool true)], args := [d1, d2] }
  | _ => none }
def fnExactSumFitsRow : OpenClaim := { program := "ytmmhobokbbcpbaa", sum := "2a6b2462fa1fb1f906f19394184860ff7efcde0201f058dc7cf022cdb12ba07d", func := "loop.example/netstack/laws.FnExactSumFits", spec := "fnExactSumFits", apart := false }
def FnExactSumFitsSaid : Prop := fnExactSumFitsRow.holds Try.pinned (OpenSpec.ofChange fnExactSumFitsSpec)

/-- ITS FALSE NEIGHBOUR: 'it returns false'. Refute it at one input. -/
def fnExactSumFitsWrong : ChangeSpec := { name := "fnExactSumFits", fn := fun _ => fun
  | [d1, d2] => { results := [.lit (.bool false)], args := [d1, d2] }
  | _ => none }
def FnExactSumFitsWrongFalsely : Prop := fnExactSumFitsRow.holds Try.pinned (OpenSpec.ofChange fnExactSumFitsWrong)

/-- 'laws.FnExactSumTurned': WHATEVER THE INPUT: true; the input reads as it did. -/
def fnExactSumTurnedSpec : ChangeSpec := { name := "fnExactSumTurned", fn := fun _ => fun
  | [d1, d2, d3] => { results := [.lit (.bool true)], args := [d1, d2, d3] }
  | _ => none }
def fnExactSumTurnedRow : OpenClaim := { program := "ytmmhobokbbcpbaa", sum := "2a6b2462fa1fb1f906f19394184860ff7efcde0201f058dc7cf022cdb12ba07d", func := "loop.example/netstack/laws.FnExactSumTurned", spec := "fnExactSumTurned", apart := false }
def FnExactSumTurnedSaid : Prop := fnExactSumTurnedRow.holds Try.pinned (OpenSpec.ofChange fnExactSumTurnedSpec)

/-- ITS FALSE NEIGHBOUR: 'it returns false'. Refute it at one input. -/
def fnExactSumTurnedWrong : ChangeSpec := { name := "fnExactSumTurned", fn := fun _ => fun
  | [d1, d2, d3] => { results := [.lit (.bool false)], args := [d1, d2, d3] }
  | _ => none }
def FnExactSumTurnedWrongFalsely : Prop := fnExactSumTurnedRow.holds Try.pinned (OpenSpec.ofChange fnExactSumTurnedWrong)

/- THE SECOND FORM. 'bulk': how many values and letters a reading holds, each counted each time it is reached (what is shared counts as often as it is met; a slice's spare places count too). A statement '..UptoSaid' is the law's where the arguments, and the package variables that the reading takes, are together of bulk at most 1048576: NARROWER than '..Said'. Prove '..Said' where nothing that the law and all that it calls make is longer than what came in: it says more and counts as full. Else prove '..UptoSaid'. A law counts once. -/
mutual
def uptoBulk {H : Type} : DataW H → Nat
  | .lit (.string bytes) => bytes.length + 1
  | .lit _ => 1
  | .nil => 1
  | .ptr d => uptoBulk d + 1
  | .slice elems spare => uptoBulkAll elems + uptoBulkAll spare + 1
  | .agg parts => uptoBulkAll parts + 1
  | .iface _ d => uptoBulk d + 1
  | .map entries => uptoBulkEntries entries + 1
  | .held _ => 1
def uptoBulkAll {H : Type} : List (DataW H) → Nat
  | [] => 0
  | d :: r => uptoBulk d + uptoBulkAll r
def uptoBulkEntries {H : Type} : List (Lit × DataW H) → Nat
  | [] => 0
  | x :: r => uptoBulkEntry x + uptoBulkEntries r
def uptoBulkEntry {H : Type} : Lit × DataW H → Nat
  | (.string bytes, d) => bytes.length + uptoBulk d + 1
  | (_, d) => uptoBulk d + 1
 end
def uptoSmall : (H : Type) → List (DataW H) → Bool := fun _ ds => decide (uptoBulkAll ds ≤ 1048576)
def OpenSpec.upto (s : _root_.Go.ChangeSpec) : _root_.Go.OpenSpec := { _root_.Go.OpenSpec.ofChange s with cond := some uptoSmall }

/-- 'laws.FnBytesOf', WHERE WHAT IT READS IS OF BULK AT MOST 1048576: true; the input reads as it did. -/
def fnBytesOfUptoRow : OpenClaim := { program := "ytmmhobokbbcpbaa", sum := "2a6b2462fa1fb1f906f19394184860ff7efcde0201f058dc7cf022cdb12ba07d", func := "loop.example/netstack/laws.FnBytesOf", spec := "fnBytesOf", apart := false, narrowed := true }
def FnBytesOfUptoSaid : Prop := fnBytesOfUptoRow.holds Try.pinned (OpenSpec.upto fnBytesOfSpec)

/-- 'laws.FnNumberAt', WHERE WHAT IT READS IS OF BULK AT MOST 1048576: true; the input reads as it did. -/
def fnNumberAtUptoRow : OpenClaim := { program := "ytmmhobokbbcpbaa", sum := "2a6b2462fa1fb1f906f19394184860ff7efcde0201f058dc7cf022cdb12ba07d", func := "loop.example/netstack/laws.FnNumberAt", spec := "fnNumberAt", apart := false, narrowed := true }
def FnNumberAtUptoSaid : Prop := fnNumberAtUptoRow.holds Try.pinned (OpenSpec.upto fnNumberAtSpec)

/-- 'laws.FnSumOf', WHERE WHAT IT READS IS OF BULK AT MOST 1048576: true; the input reads as it did. -/
def fnSumOfUptoRow : OpenClaim := { program := "ytmmhobokbbcpbaa", sum := "2a6b2462fa1fb1f906f19394184860ff7efcde0201f058dc7cf022cdb12ba07d", func := "loop.example/netstack/laws.FnSumOf", spec := "fnSumOf", apart := false, narrowed := true }
def FnSumOfUptoSaid : Prop := fnSumOfUptoRow.holds Try.pinned (OpenSpec.upto fnSumOfSpec)

/-- 'laws.FnSumFits', WHERE WHAT IT READS IS OF BULK AT MOST 1048576: true; the input reads as it did. -/
def fnSumFitsUptoRow : OpenClaim := { program := "ytmmhobokbbcpbaa", sum := "2a6b2462fa1fb1f906f19394184860ff7efcde0201f058dc7cf022cdb12ba07d", func := "loop.example/netstack/laws.FnSumFits", spec := "fnSumFits", apart := false, narrowed := true }
def FnSumFitsUptoSaid : Prop := fnSumFitsUptoRow.holds Try.pinned (OpenSpec.upto fnSumFitsSpec)

/-- 'laws.FnSumTurned', WHERE WHAT IT READS IS OF BULK AT MOST 1048576: true; the input reads as it did. -/
def fnSumTurnedUptoRow : OpenClaim := { program := "ytmmhobokbbcpbaa", sum := "2a6b2462fa1fb1f906f19394184860ff7efcde0201f058dc7cf022cdb12ba07d", func := "loop.example/netstack/laws.FnSumTurned", spec := "fnSumTurned", apart := false, narrowed := true }
def FnSumTurnedUptoSaid : Prop := fnSumTurnedUptoRow.holds Try.pinned (OpenSpec.upto fnSumTurnedSpec)

/-- 'laws.FnExactBytesOf', WHERE WHAT IT READS IS OF BULK AT MOST 1048576: true; the input reads as it did. -/
def fnExactBytesOfUptoRow : OpenClaim := { program := "ytmmhobokbbcpbaa", sum := "2a6b2462fa1fb1f906f19394184860ff7efcde0201f058dc7cf022cdb12ba07d", func := "loop.example/netstack/laws.FnExactBytesOf", spec := "fnExactBytesOf", apart := false, narrowed := true }
def FnExactBytesOfUptoSaid : Prop := fnExactBytesOfUptoRow.holds Try.pinned (OpenSpec.upto fnExactBytesOfSpec)

/-- 'laws.FnExactNumberAt', WHERE WHAT IT READS IS OF BULK AT MOST 1048576: true; the input reads as it did. -/
def fnExactNumberAtUptoRow : OpenClaim := { program := "ytmmhobokbbcpbaa", sum := "2a6b2462fa1fb1f906f19394184860ff7efcde0201f058dc7cf022cdb12ba07d", func := "loop.example/netstack/laws.FnExactNumberAt", spec := "fnExactNumberAt", apart := false, narrowed := true }
def FnExactNumberAtUptoSaid : Prop := fnExactNumberAtUptoRow.holds Try.pinned (OpenSpec.upto fnExactNumberAtSpec)

/-- 'laws.FnExactSumOf', WHERE WHAT IT READS IS OF BULK AT MOST 1048576: true; the input reads as it did. -/
def fnExactSumOfUptoRow : OpenClaim := { program := "ytmmhobokbbcpbaa", sum := "2a6b2462fa1fb1f906f19394184860ff7efcde0201f058dc7cf022cdb12ba07d", func := "loop.example/netstack/laws.FnExactSumOf", spec := "fnExactSumOf", apart := false, narrowed := true }
def FnExactSumOfUptoSaid : Prop := fnExactSumOfUptoRow.holds Try.pinned (OpenSpec.upto fnExactSumOfSpec)

/-- 'laws.FnExactSumFits', WHERE WHAT IT READS IS OF BULK AT MOST 1048576: true; the input reads as it did. -/
def fnExactSumFitsUptoRow : OpenClaim := { program := "ytmmhobokbbcpbaa", sum := "2a6b2462fa1fb1f906f19394184860ff7efcde0201f058dc7cf022cdb12ba07d", func := "loop.example/netstack/laws.FnExactSumFits", spec := "fnExactSumFits", apart := false, narrowed := true }
def FnExactSumFitsUptoSaid : Prop := fnExactSumFitsUptoRow.holds Try.pinned (OpenSpec.upto fnExactSumFitsSpec)

/-- 'laws.FnExactSumTurned', WHERE WHAT IT READS IS OF BULK AT MOST 1048576: true; the input reads as it did. -/
def fnExactSumTurnedUptoRow : OpenClaim := { program := "ytmmhobokbbcpbaa", sum := "2a6b2462fa1fb1f906f19394184860ff7efcde0201f058dc7cf022cdb12ba07d", func := "loop.example/netstack/laws.FnExactSumTurned", spec := "fnExactSumTurned", apart := false, narrowed := true }
def FnExactSumTurnedUptoSaid : Prop := fnExactSumTurnedUptoRow.holds Try.pinned (OpenSpec.upto fnExactSumTurnedSpec)

end Rows
end Go.Proofs.Ytmmhobokbbcpbaa
