/-
  No cell of these rows narrows 'for every input' (looked for: loops, veiled, ifaces, maps, wideKeys, modest, calm, conditions, laid).
  DERIVED. THE GIVEN ROWS OF THIS SEAT. 6 by the template 'for every input the law returns true; each argument reads behind the call as it read before'; 0 by the template 'total and deterministic' (their statements: YtloffpgdclbkhaaTotals.lean).
  GIVEN WITH THE SEED: the statements are not yours to turn. If you find one false, say at which input.
  Laid BY PROGRAM, IN A SANDBOX (cutbox-rows.mjs): the forced cells as the released guide's own fill.sh prints them over the translation 70a3b44f86fd697e… (all of the seat's roots in one cut). By AI agents, Wed Nov 11 2026. No macro, syntax, notation, axiom, sorry.
-/
import Derived.Test.YtloffpgdclbkhaaChecked
import GoSem.Claim
import GoSem.ClaimJoined
import GoSem.ClaimMapViews
import Derived.JoinedTies
import Derived.KernelRfl
namespace Go.Proofs.Ytloffpgdclbkhaa
/- THE CELL 'sum', in the pinned program and in every row, IS THE sha256 OF THE DUMP (.gsa) THAT YtloffpgdclbkhaaProg.lean LOADS. Nothing in Lean hashes anything: it is a label: what it is worth is what the hold of that sum in a sandbox is worth. -/
noncomputable def Try.pinned : Pinned := { name := "ytloffpgdclbkhaa", sum := "70a3b44f86fd697ee9ff2d197d082c52138b56863c02ab513b1ae1809591e632", checked := Try.checked }
namespace Rows
def none {H : Type} : Left H := { results := [], args := [] }

/-- 'laws.FnExactPacketCut': WHATEVER THE INPUT: true; the input reads as it did. -/
def fnExactPacketCutSpec : ChangeSpec := { name := "fnExactPacketCut", fn := fun _ => fun
  | [d1, d2] => { results := [.lit (.bool true)], args := [d1, d2] }
  | _ => none }
def fnExactPacketCutRow : OpenClaim := { program := "ytloffpgdclbkhaa", sum := "70a3b44f86fd697ee9ff2d197d082c52138b56863c02ab513b1ae1809591e632", func := "loop.example/netstack/laws.FnExactPacketCut", spec := "fnExactPacketCut", apart := false }
def FnExactPacketCutSaid : Prop := fnExactPacketCutRow.holds Try.pinned (OpenSpec.ofChange fnExactPacketCutSpec)

/-- ITS FALSE NEIGHBOUR: 'it returns false'. Refute it at one input. -/
def fnExactPacketCutWrong : ChangeSpec := { name := "fnExactPacketCut", fn := fun _ => fun
  | [d1, d2] => { results := [.lit (.bool false)], args := [d1, d2] }
  | _ => none }
def FnExactPacketCutWrongFalsely : Prop := fnExactPacketCutRow.holds Try.pinned (OpenSpec.ofChange fnExactPacketCutWrong)

/-- 'laws.FnExactPartOk': WHATEVER THE INPUT: true; the input reads as it did. -/
def fnExactPartOkSpec : ChangeSpec := { name := "fnExactPartOk", fn := fun _ => fun
  | [d] => { results := [.lit (.bool true)], args := [d] }
  | _ => none }
def fnExactPartOkRow : OpenClaim := { program := "ytloffpgdclbkhaa", sum := "70a3b44f86fd697ee9ff2d197d082c52138b56863c02ab513b1ae1809591e632", func := "loop.example/netstack/laws.FnExactPartOk", spec := "fnExactPartOk", apart := false }
def FnExactPartOkSaid : Prop := fnExactPartOkRow.holds Try.pinned (OpenSpec.ofChange fnExactPartOkSpec)

/-- ITS FALSE NEIGHBOUR: 'it returns false'. Refute it at one input. -/
def fnExactPartOkWrong : ChangeSpec := { name := "fnExactPartOk", fn := fun _ => fun
  | [d] => { results := [.lit (.bool false)], args := [d] }
  | _ => none }
def FnExactPartOkWrongFalsely : Prop := fnExactPartOkRow.holds Try.pinned (OpenSpec.ofChange fnExactPartOkWrong)

/-- 'laws.FnExactPartWhole': WHATEVER THE INPUT: true; the input reads as it did. -/
def fnExactPartWholeSpec : ChangeSpec := { name := "fnExactPartWhole", fn := fun _ => fun
  | [d] => { results := [.lit (.bool true)], args := [d] }
  | _ => none }
def fnExactPartWholeRow : OpenClaim := { program := "ytloffpgdclbkhaa", sum := "70a3b44f86fd697ee9ff2d197d082c52138b56863c02ab513b1ae1809591e632", func := "loop.example/netstack/laws.FnExactPartWhole", spec := "fnExactPartWhole", apart := false }
def FnExactPartWholeSaid : Prop := fnExactPartWholeRow.holds Try.pinned (OpenSpec.ofChange fnExactPartWholeSpec)

/-- ITS FALSE NEIGHBOUR: 'it returns false'. Refute it at one input. -/
def fnExactPartWholeWrong : ChangeSpec := { name := "fnExactPartWhole", fn := fun _ => fun
  | [d] => { results := [.lit (.bool false)], args := [d] }
  | _ => none }
def FnExactPartWholeWrongFalsely : Prop := fnExactPartWholeRow.holds Try.pinned (OpenSpec.ofChange fnExactPartWholeWrong)

/-- 'laws.FnExactPartPut': WHATEVER THE INPUT: true; the input reads as it did. -/
def fnExactPartPutSpec : ChangeSpec := { name := "fnExactPartPut", fn := fun _ => fun
  | [d1, d2] => { results := [.lit (.bool true)], args := [d1, d2] }
  | _ => none }
def fnExactPartPutRow : OpenClaim := { program := "ytloffpgdclbkhaa", sum := "70a3b44f86fd697ee9ff2d197d082c52138b56863c02ab513b1ae1809591e632", func := "loop.example/netstack/laws.FnExactPartPut", spec := "fnExactPartPut", apart := false }
def FnExactPartPutSaid : Prop := fnExactPartPutRow.holds Try.pinned (OpenSpec.ofChange fnExactPartPutSpec)

/-- ITS FALSE NEIGHBOUR: 'it returns false'. Refute it at one input. -/
def fnExactPartPutWrong : ChangeSpec := { name := "fnExactPartPut", fn := fun _ => fun
  | [d1, d2] => { results := [.lit (.bool false)], args := [d1, d2] }
  | _ => none }
def FnExactPartPutWrongFalsely : Prop := fnExactPartPutRow.holds Try.pinned (OpenSpec.ofChange fnExactPartPutWrong)

/-- 'laws.FnExactPartsOk': WHATEVER THE INPUT: true; the input reads as it did. -/
def fnExactPartsOkSpec : ChangeSpec := { name := "fnExactPartsOk", fn := fun _ => fun
  | [d] => { results := [.lit (.bool true)], args := [d] }
  | _ => none }
def fnExactPartsOkRow : OpenClaim := { program := "ytloffpgdclbkhaa", sum := "70a3b44f86fd697ee9ff2d197d082c52138b56863c02ab513b1ae1809591e632", func := "loop.example/netstack/laws.FnExactPartsOk", spec := "fnExactPartsOk", apart := false }
def FnExactPartsOkSaid : Prop := fnExactPartsOkRow.holds Try.pinned (OpenSpec.ofChange fnExactPartsOkSpec)

/-- ITS FALSE NEIGHBOUR: 'it returns false'. Refute it at one input. -/
def fnExactPartsOkWrong : ChangeSpec := { name := "fnExactPartsOk", fn := fun _ => fun
  | [d] => { results := [.lit (.bool false)], args := [d] }
  | _ => none }
def FnExactPartsOkWrongFalsely : Prop := fnExactPartsOkRow.holds Try.pinned (OpenSpec.ofChange fnExactPartsOkWrong)

/-- 'laws.FnExactPartsHear': WHATEVER THE INPUT: true; the input reads as it did. -/
def fnExactPartsHearSpec : ChangeSpec := { name := "fnExactPartsHear", fn := fun _ => fun
  | [d1, d2, d3] => { results := [.lit (.bool true)], args := [d1, d2, d3] }
  | _ => none }
def fnExactPartsHearRow : OpenClaim := { program := "ytloffpgdclbkhaa", sum := "70a3b44f86fd697ee9ff2d197d082c52138b56863c02ab513b1ae1809591e632", func := "loop.example/netstack/laws.FnExactPartsHear", spec := "fnExactPartsHear", apart := false }
def FnExactPartsHearSaid : Prop := fnExactPartsHearRow.holds Try.pinned (OpenSpec.ofChange fnExactPartsHearSpec)

/-- ITS FALSE NEIGHBOUR: 'it returns false'. Refute it at one input. -/
def fnExactPartsHearWrong : ChangeSpec := { name := "fnExactPartsHear", fn := fun _ => fun
  | [d1, d2, d3] => { results := [.lit (.bool false)], args := [d1, d2, d3] }
  | _ => none }
def FnExactPartsHearWrongFalsely : Prop := fnExactPartsHearRow.holds Try.pinned (OpenSpec.ofChange fnExactPartsHearWrong)

/- THE SECOND FORM. 'bulk': how many values and letters a reading holds, each counted each time it is reached (what is shared counts as often as it is met; a slice's spare places count too). A statement '..UptoSaid' is the law's where the arguments, and the package variables that the reading takes, are together of bulk at most 1048576: NARROWER than '..Said'. Prove '..Said' where nothing that the law and all that it calls make is longer than what came in: it says more and counts as full. Else prove '..UptoSaid'. A law counts once. -/
mutual
def uptoBulk {H : Type} : DataW H → Nat
  | .lit (.string bytes) => bytes.length + 1
  | .lit _ => 1
  | .nil => 1
  | .ptr d => uptoBulk d + 1
  | .slice elems spare => uptoBulkAll elems + uptoBulkAll spare + 1
  | .agg parts => uptoBulkAll parts + 1
  | .iface _ d => uptoBulk d + 1
  | .map entries => uptoBulkEntries entries + 1
  | .held _ => 1
def uptoBulkAll {H : Type} : List (DataW H) → Nat
  | [] => 0
  | d :: r => uptoBulk d + uptoBulkAll r
def uptoBulkEntries {H : Type} : List (Lit × DataW H) → Nat
  | [] => 0
  | x :: r => uptoBulkEntry x + uptoBulkEntries r
def uptoBulkEntry {H : Type} : Lit × DataW H → Nat
  | (.string bytes, d) => bytes.length + uptoBulk d + 1
  | (_, d) => uptoBulk d + 1
 end
def uptoSmall : (H : Type) → List (DataW H) → Bool := fun _ ds => decide (uptoBulkAll ds ≤ 1048576)
def OpenSpec.upto (s : _root_.Go.ChangeSpec) : _root_.Go.OpenSpec := { _root_.Go.OpenSpec.ofChange s with cond := some uptoSmall }

/-- 'laws.FnExactPacketCut', WHERE WHAT IT READS IS OF BULK AT MOST 1048576: true; the input reads as it did. -/
def fnExactPacketCutUptoRow : OpenClaim := { program := "ytloffpgdclbkhaa", sum := "70a3b44f86fd697ee9ff2d197d082c52138b56863c02ab513b1ae1809591e632", func := "loop.example/netstack/laws.FnExactPacketCut", spec := "fnExactPacketCut", apart := false, narrowed := true }
def FnExactPacketCutUptoSaid : Prop := fnExactPacketCutUptoRow.holds Try.pinned (OpenSpec.upto fnExactPacketCutSpec)

/-- 'laws.FnExactPartOk', WHERE WHAT IT READS IS OF BULK AT MOST 1048576: true; the input reads as it did. -/
def fnExactPartOkUptoRow : OpenClaim := { program := "ytloffpgdclbkhaa", sum := "70a3b44f86fd697ee9ff2d197d082c52138b56863c02ab513b1ae1809591e632", func := "loop.example/netstack/laws.FnExactPartOk", spec := "fnExactPartOk", apart := false, narrowed := true }
def FnExactPartOkUptoSaid : Prop := fnExactPartOkUptoRow.holds Try.pinned (OpenSpec.upto fnExactPartOkSpec)

/-- 'laws.FnExactPartWhole', WHERE WHAT IT READS IS OF BULK AT MOST 1048576: true; the input reads as it did. -/
def fnExactPartWholeUptoRow : OpenClaim := { program := "ytloffpgdclbkhaa", sum := "70a3b44f86fd697ee9ff2d197d082c52138b56863c02ab513b1ae1809591e632", func := "loop.example/netstack/laws.FnExactPartWhole", spec := "fnExactPartWhole", apart := false, narrowed := true }
def FnExactPartWholeUptoSaid : Prop := fnExactPartWholeUptoRow.holds Try.pinned (OpenSpec.upto fnExactPartWholeSpec)

/-- 'laws.FnExactPartPut', WHERE WHAT IT READS IS OF BULK AT MOST 1048576: true; the input reads as it did. -/
def fnExactPartPutUptoRow : OpenClaim := { program := "ytloffpgdclbkhaa", sum := "70a3b44f86fd697ee9ff2d197d082c52138b56863c02ab513b1ae1809591e632", func := "loop.example/netstack/laws.FnExactPartPut", spec := "fnExactPartPut", apart := false, narrowed := true }
def FnExactPartPutUptoSaid : Prop := fnExactPartPutUptoRow.holds Try.pinned (OpenSpec.upto fnExactPartPutSpec)

/-- 'laws.FnExactPartsOk', WHERE WHAT IT READS IS OF BULK AT MOST 1048576: true; the input reads as it did. -/
def fnExactPartsOkUptoRow : OpenClaim := { program := "ytloffpgdclbkhaa", sum := "70a3b44f86fd697ee9ff2d197d082c52138b56863c02ab513b1ae1809591e632", func := "loop.example/netstack/laws.FnExactPartsOk", spec := "fnExactPartsOk", apart := false, narrowed := true }
def FnExactPartsOkUptoSaid : Prop := fnExactPartsOkUptoRow.holds Try.pinned (OpenSpec.upto fnExactPartsOkSpec)

/-- 'laws.FnExactPartsHear', WHERE WHAT IT READS IS OF BULK AT MOST 1048576: true; the input reads as it did. -/
def fnExactPartsHearUptoRow : OpenClaim := { program := "ytloffpgdclbkhaa", sum := "70a3b44f86fd697ee9ff2d197d082c52138b56863c02ab513b1ae1809591e632", func := "loop.example/netstack/laws.FnExactPartsHear", spec := "fnExactPartsHear", apart := false, narrowed := true }
def FnExactPartsHearUptoSaid : Prop := fnExactPartsHearUptoRow.holds Try.pinned (OpenSpec.upto fnExactPartsHearSpec)

end Rows
end Go.Proofs.Ytloffpgdclbkhaa
