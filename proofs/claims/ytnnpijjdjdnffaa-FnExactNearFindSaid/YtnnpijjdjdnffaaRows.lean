/-
  No cell of these rows narrows 'for every input' (looked for: loops, veiled, ifaces, maps, wideKeys, modest, calm, conditions, laid).
  DERIVED. THE GIVEN ROWS OF THIS SEAT. 12 by the template 'for every input the law returns true; each argument reads behind the call as it read before'; 0 by the template 'total and deterministic' (their statements: YtnnpijjdjdnffaaTotals.lean).
  GIVEN WITH THE SEED: the statements are not yours to turn. If you find one false, say at which input.
  Laid BY PROGRAM, IN A SANDBOX (cutbox-rows.mjs): the forced cells as the released guide's own fill.sh prints them over the translation 054cf657b29216ea… (all of the seat's roots in one cut). By AI agents, Wed Nov 11 2026. No macro, syntax, notation, axiom, sorry.
-/
import Derived.Test.YtnnpijjdjdnffaaChecked
import GoSem.Claim
import GoSem.ClaimJoined
import GoSem.ClaimMapViews
import Derived.JoinedTies
import Derived.KernelRfl
namespace Go.Proofs.Ytnnpijjdjdnffaa
/- THE CELL 'sum', in the pinned program and in every row, IS THE sha256 OF THE DUMP (.gsa) THAT YtnnpijjdjdnffaaProg.lean LOADS. Nothing in Lean hashes anything: it is a label: what it is worth is what the hold of that sum in a sandbox is worth. -/
noncomputable def Try.pinned : Pinned := { name := "ytnnpijjdjdnffaa", sum := "054cf657b29216eae7002c198a002b76b37028deeb04ed6ae512876367f6f0b3", checked := Try.checked }
namespace Rows
def none {H : Type} : Left H := { results := [], args := [] }

/-- 'laws.FnFrameBytes': WHATEVER THE INPUT: true; the input reads as it did. -/
def fnFrameBytesSpec : ChangeSpec := { name := "fnFrameBytes", fn := fun _ => fun
  | [d] => { results := [.lit (.bool true)], args := [d] }
  | _ => none }
def fnFrameBytesRow : OpenClaim := { program := "ytnnpijjdjdnffaa", sum := "054cf657b29216eae7002c198a002b76b37028deeb04ed6ae512876367f6f0b3", func := "loop.example/netstack/laws.FnFrameBytes", spec := "fnFrameBytes", apart := false }
def FnFrameBytesSaid : Prop := fnFrameBytesRow.holds Try.pinned (OpenSpec.ofChange fnFrameBytesSpec)

/-- ITS FALSE NEIGHBOUR: 'it returns false'. Refute it at one input. -/
def fnFrameBytesWrong : ChangeSpec := { name := "fnFrameBytes", fn := fun _ => fun
  | [d] => { results := [.lit (.bool false)], args := [d] }
  | _ => none }
def FnFrameBytesWrongFalsely : Prop := fnFrameBytesRow.holds Try.pinned (OpenSpec.ofChange fnFrameBytesWrong)

/-- 'laws.FnFrameFrom': WHATEVER THE INPUT: true; the input reads as it did. -/
def fnFrameFromSpec : ChangeSpec := { name := "fnFrameFrom", fn := fun _ => fun
  | [d] => { results := [.lit (.bool true)], args := [d] }
  | _ => none }
def fnFrameFromRow : OpenClaim := { program := "ytnnpijjdjdnffaa", sum := "054cf657b29216eae7002c198a002b76b37028deeb04ed6ae512876367f6f0b3", func := "loop.example/netstack/laws.FnFrameFrom", spec := "fnFrameFrom", apart := false }
def FnFrameFromSaid : Prop := fnFrameFromRow.holds Try.pinned (OpenSpec.ofChange fnFrameFromSpec)

/-- ITS FALSE NEIGHBOUR: 'it returns false'. Refute it at one input. -/
def fnFrameFromWrong : ChangeSpec := { name := "fnFrameFrom", fn := fun _ => fun
  | [d] => { results := [.lit (.bool false)], args := [d] }
  | _ => none }
def FnFrameFromWrongFalsely : Prop := fnFrameFromRow.holds Try.pinned (OpenSpec.ofChange fnFrameFromWrong)

/-- 'laws.FnExactQueryOk': WHATEVER THE INPUT: true; the input reads as it did. -/
def fnExactQueryOkSpec : ChangeSpec := { name := "fnExactQueryOk", fn := fun _ => fun
  | [d] => { results := [.lit (.bool true)], args := [d] }
  | _ => none }
def fnExactQueryOkRow : OpenClaim := { program := "ytnnpijjdjdnffaa", sum := "054cf657b29216eae7002c198a002b76b37028deeb04ed6ae512876367f6f0b3", func := "loop.example/netstack/laws.FnExactQueryOk", spec := "fnExactQueryOk", apart := false }
def FnExactQueryOkSaid : Prop := fnExactQueryOkRow.holds Try.pinned (OpenSpec.ofChange fnExactQueryOkSpec)

/-- ITS FALSE NEIGHBOUR: 'it returns false'. Refute it at one input. -/
def fnExactQueryOkWrong : ChangeSpec := { name := "fnExactQueryOk", fn := fun _ => fun
  | [d] => { results := [.lit (.bool false)], args := [d] }
  | _ => none }
def FnExactQueryOkWrongFalsely : Prop := fnExactQueryOkRow.holds Try.pinned (OpenSpec.ofChange fnExactQueryOkWrong)

/-- 'laws.FnExactQueryBytes': WHATEVER THE INPUT: true; the input reads as it did. -/
def fnExactQueryBytesSpec : ChangeSpec := { name := "fnExactQueryBytes", fn := fun _ => fun
  | [d] => { results := [.lit (.bool true)], args := [d] }
  | _ => none }
def fnExactQueryBytesRow : OpenClaim := { program := "ytnnpijjdjdnffaa", sum := "054cf657b29216eae7002c198a002b76b37028deeb04ed6ae512876367f6f0b3", func := "loop.example/netstack/laws.FnExactQueryBytes", spec := "fnExactQueryBytes", apart := false }
def FnExactQueryBytesSaid : Prop := fnExactQueryBytesRow.holds Try.pinned (OpenSpec.ofChange fnExactQueryBytesSpec)

/-- ITS FALSE NEIGHBOUR: 'it returns false'. Refute it at one input. -/
def fnExactQueryBytesWrong : ChangeSpec := { name := "fnExactQueryBytes", fn := fun _ => fun
  | [d] => { results := [.lit (.bool false)], args := [d] }
  | _ => none }
def FnExactQueryBytesWrongFalsely : Prop := fnExactQueryBytesRow.holds Try.pinned (OpenSpec.ofChange fnExactQueryBytesWrong)

/-- 'laws.FnExactQueryFrom': WHATEVER THE INPUT: true; the input reads as it did. -/
def fnExactQueryFromSpec : ChangeSpec := { name := "fnExactQueryFrom", fn := fun _ => fun
  | [d] => { results := [.lit (.bool true)], args := [d] }
  | _ => none }
def fnExactQueryFromRow : OpenClaim := { program := "ytnnpijjdjdnffaa", sum := "054cf657b29216eae7002c198a002b76b37028deeb04ed6ae512876367f6f0b3", func := "loop.example/netstack/laws.FnExactQueryFrom", spec := "fnExactQueryFrom", apart := false }
def FnExactQueryFromSaid : Prop := fnExactQueryFromRow.holds Try.pinned (OpenSpec.ofChange fnExactQueryFromSpec)

/-- ITS FALSE NEIGHBOUR: 'it returns false'. Refute it at one input. -/
def fnExactQueryFromWrong : ChangeSpec := { name := "fnExactQueryFrom", fn := fun _ => fun
  | [d] => { results := [.lit (.bool false)], args := [d] }
  | _ => none }
def FnExactQueryFromWrongFalsely : Prop := fnExactQueryFromRow.holds Try.pinned (OpenSpec.ofChange fnExactQueryFromWrong)

/-- 'laws.FnExactNearTells': WHATEVER THE INPUT: true; the input reads as it did. -/
def fnExactNearTellsSpec : ChangeSpec := { name := "fnExactNearTells", fn := fun _ => fun
  | [d1, d2, d3] => { results := [.lit (.bool true)], args := [d1, d2, d3] }
  | _ => none }
def fnExactNearTellsRow : OpenClaim := { program := "ytnnpijjdjdnffaa", sum := "054cf657b29216eae7002c198a002b76b37028deeb04ed6ae512876367f6f0b3", func := "loop.example/netstack/laws.FnExactNearTells", spec := "fnExactNearTells", apart := false }
def FnExactNearTellsSaid : Prop := fnExactNearTellsRow.holds Try.pinned (OpenSpec.ofChange fnExactNearTellsSpec)

/-- ITS FALSE NEIGHBOUR: 'it returns false'. Refute it at one input. -/
def fnExactNearTellsWrong : ChangeSpec := { name := "fnExactNearTells", fn := fun _ => fun
  | [d1, d2, d3] => { results := [.lit (.bool false)], args := [d1, d2, d3] }
  | _ => none }
def FnExactNearTellsWrongFalsely : Prop := fnExactNearTellsRow.holds Try.pinned (OpenSpec.ofChange fnExactNearTellsWrong)

/-- 'laws.FnQueryOk': WHATEVER THE INPUT: true; the input reads as it did. -/
def fnQueryOkSpec : ChangeSpec := { name := "fnQueryOk", fn := fun _ => fun
  | [d] => { results := [.lit (.bool true)], args := [d] }
  | _ => none }
def fnQueryOkRow : OpenClaim := { program := "ytnnpijjdjdnffaa", sum := "054cf657b29216eae7002c198a002b76b37028deeb04ed6ae512876367f6f0b3", func := "loop.example/netstack/laws.FnQueryOk", spec := "fnQueryOk", apart := false }
def FnQueryOkSaid : Prop := fnQueryOkRow.holds Try.pinned (OpenSpec.ofChange fnQueryOkSpec)

/-- ITS FALSE NEIGHBOUR: 'it returns false'. Refute it at one input. -/
def fnQueryOkWrong : ChangeSpec := { name := "fnQueryOk", fn := fun _ => fun
  | [d] => { results := [.lit (.bool false)], args := [d] }
  | _ => none }
def FnQueryOkWrongFalsely : Prop := fnQueryOkRow.holds Try.pinned (OpenSpec.ofChange fnQueryOkWrong)

/-- 'laws.FnQueryBytes': WHATEVER THE INPUT: true; the input reads as it did. -/
def fnQueryBytesSpec : ChangeSpec := { name := "fnQueryBytes", fn := fun _ => fun
  | [d] => { results := [.lit (.bool true)], args := [d] }
  | _ => none }
def fnQueryBytesRow : OpenClaim := { program := "ytnnpijjdjdnffaa", sum := "054cf657b29216eae7002c198a002b76b37028deeb04ed6ae512876367f6f0b3", func := "loop.example/netstack/laws.FnQueryBytes", spec := "fnQueryBytes", apart := false }
def FnQueryBytesSaid : Prop := fnQueryBytesRow.holds Try.pinned (OpenSpec.ofChange fnQueryBytesSpec)

/-- ITS FALSE NEIGHBOUR: 'it returns false'. Refute it at one input. -/
def fnQueryBytesWrong : ChangeSpec := { name := "fnQueryBytes", fn := fun _ => fun
  | [d] => { results := [.lit (.bool false)], args := [d] }
  | _ => none }
def FnQueryBytesWrongFalsely : Prop := fnQueryBytesRow.holds Try.pinned (OpenSpec.ofChange fnQueryBytesWrong)

/-- 'laws.FnQueryFrom': WHATEVER THE INPUT: true; the input reads as it did. -/
def fnQueryFromSpec : ChangeSpec := { name := "fnQueryFrom", fn := fun _ => fun
  | [d] => { results := [.lit (.bool true)], args := [d] }
  | _ => none }
def fnQueryFromRow : OpenClaim := { program := "ytnnpijjdjdnffaa", sum := "054cf657b29216eae7002c198a002b76b37028deeb04ed6ae512876367f6f0b3", func := "loop.example/netstack/laws.FnQueryFrom", spec := "fnQueryFrom", apart := false }
def FnQueryFromSaid : Prop := fnQueryFromRow.holds Try.pinned (OpenSpec.ofChange fnQueryFromSpec)

/-- ITS FALSE NEIGHBOUR: 'it returns false'. Refute it at one input. -/
def fnQueryFromWrong : ChangeSpec := { name := "fnQueryFrom", fn := fun _ => fun
  | [d] => { results := [.lit (.bool false)], args := [d] }
  | _ => none }
def FnQueryFromWrongFalsely : Prop := fnQueryFromRow.holds Try.pinned (OpenSpec.ofChange fnQueryFromWrong)

/-- 'laws.FnNearTells': WHATEVER THE INPUT: true; the input reads as it did. -/
def fnNearTellsSpec : ChangeSpec := { name := "fnNearTells", fn := fun _ => fun
  | [d] => { results := [.lit (.bool true)], args := [d] }
  | _ => none }
def fnNearTellsRow : OpenClaim := { program := "ytnnpijjdjdnffaa", sum := "054cf657b29216eae7002c198a002b76b37028deeb04ed6ae512876367f6f0b3", func := "loop.example/netstack/laws.FnNearTells", spec := "fnNearTells", apart := false }
def FnNearTellsSaid : Prop := fnNearTellsRow.holds Try.pinned (OpenSpec.ofChange fnNearTellsSpec)

/-- ITS FALSE NEIGHBOUR: 'it returns false'. Refute it at one input. -/
def fnNearTellsWrong : ChangeSpec := { name := "fnNearTells", fn := fun _ => fun
  | [d] => { results := [.lit (.bool false)], args := [d] }
  | _ => none }
def FnNearTellsWrongFalsely : Prop := fnNearTellsRow.holds Try.pinned (OpenSpec.ofChange fnNearTellsWrong)

/-- 'laws.FnExactNearOk': WHATEVER THE INPUT: true; the input reads as it did. -/
def fnExactNearOkSpec : ChangeSpec := { name := "fnExactNearOk", fn := fun _ => fun
  | [d] => { results := [.lit (.bool true)], args := [d] }
  | _ => none }
def fnExactNearOkRow : OpenClaim := { program := "ytnnpijjdjdnffaa", sum := "054cf657b29216eae7002c198a002b76b37028deeb04ed6ae512876367f6f0b3", func := "loop.example/netstack/laws.FnExactNearOk", spec := "fnExactNearOk", apart := false }
def FnExactNearOkSaid : Prop := fnExactNearOkRow.holds Try.pinned (OpenSpec.ofChange fnExactNearOkSpec)

/-- ITS FALSE NEIGHBOUR: 'it returns false'. Refute it at one input. -/
def fnExactNearOkWrong : ChangeSpec := { name := "fnExactNearOk", fn := fun _ => fun
  | [d] => { results := [.lit (.bool false)], args := [d] }
  | _ => none }
def FnExactNearOkWrongFalsely : Prop := fnExactNearOkRow.holds Try.pinned (OpenSpec.ofChange fnExactNearOkWrong)

/-- 'laws.FnExactNearFind': WHATEVER THE INPUT: true; the input reads as it did. -/
def fnExactNearFindSpec : ChangeSpec := { name := "fnExactNearFind", fn := fun _ => fun
  | [d1, d2, d3] => { results := [.lit (.bool true)], args := [d1, d2, d3] }
  | _ => none }
def fnExactNearFindRow : OpenClaim := { program := "ytnnpijjdjdnffaa", sum := "054cf657b29216eae7002c198a002b76b37028deeb04ed6ae512876367f6f0b3", func := "loop.example/netstack/laws.FnExactNearFind", spec := "fnExactNearFind", apart := false }
def FnExactNearFindSaid : Prop := fnExactNearFindRow.holds Try.pinned (OpenSpec.ofChange fnExactNearFindSpec)

/-- ITS FALSE NEIGHBOUR: 'it returns false'. Refute it at one input. -/
def fnExactNearFindWrong : ChangeSpec := { name := "fnExactNearFind", fn := fun _ => fun
  | [d1, d2, d3] => { results := [.lit (.bool false)], args := [d1, d2, d3] }
  | _ => none }
def FnExactNearFindWrongFalsely : Prop := fnExactNearFindRow.holds Try.pinned (OpenSpec.ofChange fnExactNearFindWrong)

/- THE SECOND FORM. 'bulk': how many values and letters a reading holds, each counted each time it is reached (what is shared counts as often as it is met; a slice's spare places count too). A statement '..UptoSaid' is the law's where the arguments, and the package variables that the reading takes, are together of bulk at most 1048576: NARROWER than '..Said'. Prove '..Said' where nothing that the law and all that it calls make is longer than what came in: it says more and counts as full. Else prove '..UptoSaid'. A law counts once. -/
mutual
def uptoBulk {H : Type} : DataW H → Nat
  | .lit (.string bytes) => bytes.length + 1
  | .lit _ => 1
  | .nil => 1
  | .ptr d => uptoBulk d + 1
  | .slice elems spare => uptoBulkAll elems + uptoBulkAll spare + 1
  | .agg parts => uptoBulkAll parts + 1
  | .iface _ d => uptoBulk d + 1
  | .map entries => uptoBulkEntries entries + 1
  | .held _ => 1
def uptoBulkAll {H : Type} : List (DataW H) → Nat
  | [] => 0
  | d :: r => uptoBulk d + uptoBulkAll r
def uptoBulkEntries {H : Type} : List (Lit × DataW H) → Nat
  | [] => 0
  | x :: r => uptoBulkEntry x + uptoBulkEntries r
def uptoBulkEntry {H : Type} : Lit × DataW H → Nat
  | (.string bytes, d) => bytes.length + uptoBulk d + 1
  | (_, d) => uptoBulk d + 1
 end
def uptoSmall : (H : Type) → List (DataW H) → Bool := fun _ ds => decide (uptoBulkAll ds ≤ 1048576)
def OpenSpec.upto (s : _root_.Go.ChangeSpec) : _root_.Go.OpenSpec := { _root_.Go.OpenSpec.ofChange s with cond := some uptoSmall }

/-- 'laws.FnFrameBytes', WHERE WHAT IT READS IS OF BULK AT MOST 1048576: true; the input reads as it did. -/
def fnFrameBytesUptoRow : OpenClaim := { program := "ytnnpijjdjdnffaa", sum := "054cf657b29216eae7002c198a002b76b37028deeb04ed6ae512876367f6f0b3", func := "loop.example/netstack/laws.FnFrameBytes", spec := "fnFrameBytes", apart := false, narrowed := true }
def FnFrameBytesUptoSaid : Prop := fnFrameBytesUptoRow.holds Try.pinned (OpenSpec.upto fnFrameBytesSpec)

/-- 'laws.FnFrameFrom', WHERE WHAT IT READS IS OF BULK AT MOST 1048576: true; the input reads as it did. -/
def fnFrameFromUptoRow : OpenClaim := { program := "ytnnpijjdjdnffaa", sum := "054cf657b29216eae7002c198a002b76b37028deeb04ed6ae512876367f6f0b3", func := "loop.example/netstack/laws.FnFrameFrom", spec := "fnFrameFrom", apart := false, narrowed := true }
def FnFrameFromUptoSaid : Prop := fnFrameFromUptoRow.holds Try.pinned (OpenSpec.upto fnFrameFromSpec)

/-- 'laws.FnExactQueryOk', WHERE WHAT IT READS IS OF BULK AT MOST 1048576: true; the input reads as it did. -/
def fnExactQueryOkUptoRow : OpenClaim := { program := "ytnnpijjdjdnffaa", sum := "054cf657b29216eae7002c198a002b76b37028deeb04ed6ae512876367f6f0b3", func := "loop.example/netstack/laws.FnExactQueryOk", spec := "fnExactQueryOk", apart := false, narrowed := true }
def FnExactQueryOkUptoSaid : Prop := fnExactQueryOkUptoRow.holds Try.pinned (OpenSpec.upto fnExactQueryOkSpec)

/-- 'laws.FnExactQueryBytes', WHERE WHAT IT READS IS OF BULK AT MOST 1048576: true; the input reads as it did. -/
def fnExactQueryBytesUptoRow : OpenClaim := { program := "ytnnpijjdjdnffaa", sum := "054cf657b29216eae7002c198a002b76b37028deeb04ed6ae512876367f6f0b3", func := "loop.example/netstack/laws.FnExactQueryBytes", spec := "fnExactQueryBytes", apart := false, narrowed := true }
def FnExactQueryBytesUptoSaid : Prop := fnExactQueryBytesUptoRow.holds Try.pinned (OpenSpec.upto fnExactQueryBytesSpec)

/-- 'laws.FnExactQueryFrom', WHERE WHAT IT READS IS OF BULK AT MOST 1048576: true; the input reads as it did. -/
def fnExactQueryFromUptoRow : OpenClaim := { program := "ytnnpijjdjdnffaa", sum := "054cf657b29216eae7002c198a002b76b37028deeb04ed6ae512876367f6f0b3", func := "loop.example/netstack/laws.FnExactQueryFrom", spec := "fnExactQueryFrom", apart := false, narrowed := true }
def FnExactQueryFromUptoSaid : Prop := fnExactQueryFromUptoRow.holds Try.pinned (OpenSpec.upto fnExactQueryFromSpec)

/-- 'laws.FnExactNearTells', WHERE WHAT IT READS IS OF BULK AT MOST 1048576: true; the input reads as it did. -/
def fnExactNearTellsUptoRow : OpenClaim := { program := "ytnnpijjdjdnffaa", sum := "054cf657b29216eae7002c198a002b76b37028deeb04ed6ae512876367f6f0b3", func := "loop.example/netstack/laws.FnExactNearTells", spec := "fnExactNearTells", apart := false, narrowed := true }
def FnExactNearTellsUptoSaid : Prop := fnExactNearTellsUptoRow.holds Try.pinned (OpenSpec.upto fnExactNearTellsSpec)

/-- 'laws.FnQueryOk', WHERE WHAT IT READS IS OF BULK AT MOST 1048576: true; the input reads as it did. -/
def fnQueryOkUptoRow : OpenClaim := { program := "ytnnpijjdjdnffaa", sum := "054cf657b29216eae7002c198a002b76b37028deeb04ed6ae512876367f6f0b3", func := "loop.example/netstack/laws.FnQueryOk", spec := "fnQueryOk", apart := false, narrowed := true }
def FnQueryOkUptoSaid : Prop := fnQueryOkUptoRow.holds Try.pinned (OpenSpec.upto fnQueryOkSpec)

/-- 'laws.FnQueryBytes', WHERE WHAT IT READS IS OF BULK AT MOST 1048576: true; the input reads as it did. -/
def fnQueryBytesUptoRow : OpenClaim := { program := "ytnnpijjdjdnffaa", sum := "054cf657b29216eae7002c198a002b76b37028deeb04ed6ae512876367f6f0b3", func := "loop.example/netstack/laws.FnQueryBytes", spec := "fnQueryBytes", apart := false, narrowed := true }
def FnQueryBytesUptoSaid : Prop := fnQueryBytesUptoRow.holds Try.pinned (OpenSpec.upto fnQueryBytesSpec)

/-- 'laws.FnQueryFrom', WHERE WHAT IT READS IS OF BULK AT MOST 1048576: true; the input reads as it did. -/
def fnQueryFromUptoRow : OpenClaim := { program := "ytnnpijjdjdnffaa", sum := "054cf657b29216eae7002c198a002b76b37028deeb04ed6ae512876367f6f0b3", func := "loop.example/netstack/laws.FnQueryFrom", spec := "fnQueryFrom", apart := false, narrowed := true }
def FnQueryFromUptoSaid : Prop := fnQueryFromUptoRow.holds Try.pinned (OpenSpec.upto fnQueryFromSpec)

/-- 'laws.FnNearTells', WHERE WHAT IT READS IS OF BULK AT MOST 1048576: true; the input reads as it did. -/
def fnNearTellsUptoRow : OpenClaim := { program := "ytnnpijjdjdnffaa", sum := "054cf657b29216eae7002c198a002b76b37028deeb04ed6ae512876367f6f0b3", func := "loop.example/netstack/laws.FnNearTells", spec := "fnNearTells", apart := false, narrowed := true }
def FnNearTellsUptoSaid : Prop := fnNearTellsUptoRow.holds Try.pinned (OpenSpec.upto fnNearTellsSpec)

/-- 'laws.FnExactNearOk', WHERE WHAT IT READS IS OF BULK AT MOST 1048576: true; the input reads as it did. -/
def fnExactNearOkUptoRow : OpenClaim := { program := "ytnnpijjdjdnffaa", sum := "054cf657b29216eae7002c198a002b76b37028deeb04ed6ae512876367f6f0b3", func := "loop.example/netstack/laws.FnExactNearOk", spec := "fnExactNearOk", apart := false, narrowed := true }
def FnExactNearOkUptoSaid : Prop := fnExactNearOkUptoRow.holds Try.pinned (OpenSpec.upto fnExactNearOkSpec)

/-- 'laws.FnExactNearFind', WHERE WHAT IT READS IS OF BULK AT MOST 1048576: true; the input reads as it did. -/
def fnExactNearFindUptoRow : OpenClaim := { program := "ytnnpijjdjdnffaa", sum := "054cf657b29216eae7002c198a002b76b37028deeb04ed6ae512876367f6f0b3", func := "loop.example/netstack/laws.FnExactNearFind", spec := "fnExactNearFind", apart := false, narrowed := true }
def FnExactNearFindUptoSaid : Prop := fnExactNearFindUptoRow.holds Try.pinned (OpenSpec.upto fnExactNearFindSpec)

end Rows
end Go.Proofs.Ytnnpijjdjdnffaa
