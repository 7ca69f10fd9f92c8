/-
  No cell of these rows narrows 'for every input' (looked for: loops, veiled, ifaces, maps, wideKeys, modest, calm, conditions, laid).
  DERIVED. THE GIVEN ROWS OF THIS SEAT. 8 by the template 'for every input the law returns true; each argument reads behind the call as it read before'; 0 by the template 'total and deterministic' (their statements: YtpompkogpdnlcaaTotals.lean).
  GIVEN WITH THE SEED: the statements are not yours to turn. If you find one false, say at which input.
  Laid BY PROGRAM, IN A SANDBOX (cutbox-rows.mjs): the forced cells as the released guide's own fill.sh prints them over the translation ae9de57100202591… (all of the seat's roots in one cut). By AI agents, Wed Nov 11 2026. No macro, syntax, notation, axiom, sorry.
-/
import Derived.Test.YtpompkogpdnlcaaChecked
import GoSem.Claim
import GoSem.ClaimJoined
import GoSem.ClaimMapViews
import Derived.JoinedTies
import Derived.KernelRfl
namespace Go.Proofs.Ytpompkogpdnlcaa
/- THE CELL 'sum', in the pinned program and in every row, IS THE sha256 OF THE DUMP (.gsa) THAT YtpompkogpdnlcaaProg.lean LOADS. Nothing in Lean hashes anything: it is a label: what it is worth is what the hold of that sum in a sandbox is worth. -/
noncomputable def Try.pinned : Pinned := { name := "ytpompkogpdnlcaa", sum := "ae9de57100202591b258928d8aa2f83349e586e22ff27fbe851bf8b0ae62333b", checked := Try.checked }
namespace Rows
def none {H : Type} : Left H := { results := [], args := [] }

/-- 'laws.FnFrameOk': WHATEVER THE INPUT: true; the input reads as it did. -/
def fnFrameOkSpec : ChangeSpec := { name := "fnFrameOk", fn := fun _ => fun
  | [d] => { results := [.lit (.bool true)], args := [d] }
  | _ => none }
def fnFrameOkRow : OpenClaim := { program := "ytpompkogpdnlcaa", sum := "ae9de57100202591b258928d8aa2f83349e586e22ff27fbe851bf8b0ae62333b", func := "loop.example/netstack/laws.FnFrameOk", spec := "fnFrameOk", apart := false }
def FnFrameOkSaid : Prop := fnFrameOkRow.holds Try.pinned (OpenSpec.ofChange fnFrameOkSpec)

/-- ITS FALSE NEIGHBOUR: 'it returns false'. Refute it at one input. -/
def fnFrameOkWrong : ChangeSpec := { name := "fnFrameOk", fn := fun _ => fun
  | [d] => { results := [.lit (.bool false)], args := [d] }
  | _ => none }
def FnFrameOkWrongFalsely : Prop := fnFrameOkRow.holds Try.pinned (OpenSpec.ofChange fnFrameOkWrong)

/-- 'laws.FnFrameBytes': WHATEVER THE INPUT: true; the input reads as it did. -/
def fnFrameBytesSpec : ChangeSpec := { name := "fnFrameBytes", fn := fun _ => fun
  | [d] => { results := [.lit (.bool true)], args := [d] }
  | _ => none }
def fnFrameBytesRow : OpenClaim := { program := "ytpompkogpdnlcaa", sum := "ae9de57100202591b258928d8aa2f83349e586e22ff27fbe851bf8b0ae62333b", func := "loop.example/netstack/laws.FnFrameBytes", spec := "fnFrameBytes", apart := false }
def FnFrameBytesSaid : Prop := fnFrameBytesRow.holds Try.pinned (OpenSpec.ofChange fnFrameBytesSpec)

/-- ITS FALSE NEIGHBOUR: 'it returns false'. Refute it at one input. -/
def fnFrameBytesWrong : ChangeSpec := { name := "fnFrameBytes", fn := fun _ => fun
  | [d] => { results := [.lit (.bool false)], args := [d] }
  | _ => none }
def FnFrameBytesWrongFalsely : Prop := fnFrameBytesRow.holds Try.pinned (OpenSpec.ofChange fnFrameBytesWrong)

/-- 'laws.FnFrameFrom': WHATEVER THE INPUT: true; the input reads as it did. -/
def fnFrameFromSpec : ChangeSpec := { name := "fnFrameFrom", fn := fun _ => fun
  | [d] => { results := [.lit (.bool true)], args := [d] }
  | _ => none }
def fnFrameFromRow : OpenClaim := { program := "ytpompkogpdnlcaa", sum := "ae9de57100202591b258928d8aa2f83349e586e22ff27fbe851bf8b0ae62333b", func := "loop.example/netstack/laws.FnFrameFrom", spec := "fnFrameFrom", apart := false }
def FnFrameFromSaid : Prop := fnFrameFromRow.holds Try.pinned (OpenSpec.ofChange fnFrameFromSpec)

/-- ITS FALSE NEIGHBOUR: 'it returns false'. Refute it at one input. -/
def fnFrameFromWrong : ChangeSpec := { name := "fnFrameFrom", fn := fun _ => fun
  | [d] => { results := [.lit (.bool false)], args := [d] }
  | _ => none }
def FnFrameFromWrongFalsely : Prop := fnFrameFromRow.holds Try.pinned (OpenSpec.ofChange fnFrameFromWrong)

/-- 'laws.FnFrameFor': WHATEVER THE INPUT: true; the input reads as it did. -/
def fnFrameForSpec : ChangeSpec := { name := "fnFrameFor", fn := fun _ => fun
  | [d] => { results := [.lit (.bool true)], args := [d] }
  | _ => none }
def fnFrameForRow : OpenClaim := { program := "ytpompkogpdnlcaa", sum := "ae9de57100202591b258928d8aa2f83349e586e22ff27fbe851bf8b0ae62333b", func := "loop.example/netstack/laws.FnFrameFor", spec := "fnFrameFor", apart := false }
def FnFrameForSaid : Prop := fnFrameForRow.holds Try.pinned (OpenSpec.ofChange fnFrameForSpec)

/-- ITS FALSE NEIGHBOUR: 'it returns false'. Refute it at one input. -/
def fnFrameForWrong : ChangeSpec := { name := "fnFrameFor", fn := fun _ => fun
  | [d] => { results := [.lit (.bool false)], args := [d] }
  | _ => none }
def FnFrameForWrongFalsely : Prop := fnFrameForRow.holds Try.pinned (OpenSpec.ofChange fnFrameForWrong)

/-- 'laws.FnExactFrameOk': WHATEVER THE INPUT: true; the input reads as it did. -/
def fnExactFrameOkSpec : ChangeSpec := { name := "fnExactFrameOk", fn := fun _ => fun
  | [d] => { results := [.lit (.bool true)], args := [d] }
  | _ => none }
def fnExactFrameOkRow : OpenClaim := { program := "ytpompkogpdnlcaa", sum := "ae9de57100202591b258928d8aa2f83349e586e22ff27fbe851bf8b0ae62333b", func := "loop.example/netstack/laws.FnExactFrameOk", spec := "fnExactFrameOk", apart := false }
def FnExactFrameOkSaid : Prop := fnExactFrameOkRow.holds Try.pinned (OpenSpec.ofChange fnExactFrameOkSpec)

/-- ITS FALSE NEIGHBOUR: 'it returns false'. Refute it at one input. -/
def fnExactFrameOkWrong : ChangeSpec := { name := "fnExactFrameOk", fn := fun _ => fun
  | [d] => { results := [.lit (.bool false)], args := [d] }
  | _ => none }
def FnExactFrameOkWrongFalsely : Prop := fnExactFrameOkRow.holds Try.pinned (OpenSpec.ofChange fnExactFrameOkWrong)

/-- 'laws.FnExactFrameBytes': WHATEVER THE INPUT: true; the input reads as it did. -/
def fnExactFrameBytesSpec : ChangeSpec := { name := "fnExactFrameBytes", fn := fun _ => fun
  | [d] => { results := [.lit (.bool true)], args := [d] }
  | _ => none }
def fnExactFrameBytesRow : OpenClaim := { program := "ytpompkogpdnlcaa", sum := "ae9de57100202591b258928d8aa2f83349e586e22ff27fbe851bf8b0ae62333b", func := "loop.example/netstack/laws.FnExactFrameBytes", spec := "fnExactFrameBytes", apart := false }
def FnExactFrameBytesSaid : Prop := fnExactFrameBytesRow.holds Try.pinned (OpenSpec.ofChange fnExactFrameBytesSpec)

/-- ITS FALSE NEIGHBOUR: 'it returns false'. Refute it at one input. -/
def fnExactFrameBytesWrong : ChangeSpec := { name := "fnExactFrameBytes", fn := fun _ => fun
  | [d] => { results := [.lit (.bool false)], args := [d] }
  | _ => none }
def FnExactFrameBytesWrongFalsely : Prop := fnExactFrameBytesRow.holds Try.pinned (OpenSpec.ofChange fnExactFrameBytesWrong)

/-- 'laws.FnExactFrameFrom': WHATEVER THE INPUT: true; the input reads as it did. -/
def fnExactFrameFromSpec : ChangeSpec := { name := "fnExactFrameFrom", fn := fun _ => fun
  | [d] => { results := [.lit (.bool true)], args := [d] }
  | _ => none }
def fnExactFrameFromRow : OpenClaim := { program := "ytpompkogpdnlcaa", sum := "ae9de57100202591b258928d8aa2f83349e586e22ff27fbe851bf8b0ae62333b", func := "loop.example/netstack/laws.FnExactFrameFrom", spec := "fnExactFrameFrom", apart := false }
def FnExactFrameFromSaid : Prop := fnExactFrameFromRow.holds Try.pinned (OpenSpec.ofChange fnExactFrameFromSpec)

/-- ITS FALSE NEIGHBOUR: 'it returns false'. Refute it at one input. -/
def fnExactFrameFromWrong : ChangeSpec := { name := "fnExactFrameFrom", fn := fun _ => fun
  | [d] => { results := [.lit (.bool false)], args := [d] }
  | _ => none }
def FnExactFrameFromWrongFalsely : Prop := fnExactFrameFromRow.holds Try.pinned (OpenSpec.ofChange fnExactFrameFromWrong)

/-- 'laws.FnExactFrameFor': WHATEVER THE INPUT: true; the input reads as it did. -/
def fnExactFrameForSpec : ChangeSpec := { name := "fnExactFrameFor", fn := fun _ => fun
  | [d1, d2] => { results := [.lit (.bool true)], args := [d1, d2] }
  | _ => none }
def fnExactFrameForRow : OpenClaim := { program := "ytpompkogpdnlcaa", sum := "ae9de57100202591b258928d8aa2f83349e586e22ff27fbe851bf8b0ae62333b", func := "loop.example/netstack/laws.FnExactFrameFor", spec := "fnExactFrameFor", apart := false }
def FnExactFrameForSaid : Prop := fnExactFrameForRow.holds Try.pinned (OpenSpec.ofChange fnExactFrameForSpec)

/-- ITS FALSE NEIGHBOUR: 'it returns false'. Refute it at one input. -/
def fnExactFrameForWrong : ChangeSpec := { name := "fnExactFrameFor", fn := fun _ => fun
  | [d1, d2] => { results := [.lit (.bool false)], args := [d1, d2] }
  | _ => none }
def FnExactFrameForWrongFalsely : Prop := fnExactFrameForRow.holds Try.pinned (OpenSpec.ofChange fnExactFrameForWrong)

/- THE SECOND FORM. 'bulk': how many values and letters a reading holds, each counted each time it is reached (what is shared counts as often as it is met; a slice's spare places count too). A statement '..UptoSaid' is the law's where the arguments, and the package variables that the reading takes, are together of bulk at most 1048576: NARROWER than '..Said'. Prove '..Said' where nothing that the law and all that it calls make is longer than what came in: it says more and counts as full. Else prove '..UptoSaid'. A law counts once. -/
mutual
def uptoBulk {H : Type} : DataW H → Nat
  | .lit (.string bytes) => bytes.length + 1
  | .lit _ => 1
  | .nil => 1
  | .ptr d => uptoBulk d + 1
  | .slice elems spare => uptoBulkAll elems + uptoBulkAll spare + 1
  | .agg parts => uptoBulkAll parts + 1
  | .iface _ d => uptoBulk d + 1
  | .map entries => uptoBulkEntries entries + 1
  | .held _ => 1
def uptoBulkAll {H : Type} : List (DataW H) → Nat
  | [] => 0
  | d :: r => uptoBulk d + uptoBulkAll r
def uptoBulkEntries {H : Type} : List (Lit × DataW H) → Nat
  | [] => 0
  | x :: r => uptoBulkEntry x + uptoBulkEntries r
def uptoBulkEntry {H : Type} : Lit × DataW H → Nat
  | (.string bytes, d) => bytes.length + uptoBulk d + 1
  | (_, d) => uptoBulk d + 1
 end
def uptoSmall : (H : Type) → List (DataW H) → Bool := fun _ ds => decide (uptoBulkAll ds ≤ 1048576)
def OpenSpec.upto (s : _root_.Go.ChangeSpec) : _root_.Go.OpenSpec := { _root_.Go.OpenSpec.ofChange s with cond := some uptoSmall }

/-- 'laws.FnFrameOk', WHERE WHAT IT READS IS OF BULK AT MOST 1048576: true; the input reads as it did. -/
def fnFrameOkUptoRow : OpenClaim := { program := "ytpompkogpdnlcaa", sum := "ae9de57100202591b258928d8aa2f83349e586e22ff27fbe851bf8b0ae62333b", func := "loop.example/netstack/laws.FnFrameOk", spec := "fnFrameOk", apart := false, narrowed := true }
def FnFrameOkUptoSaid : Prop := fnFrameOkUptoRow.holds Try.pinned (OpenSpec.upto fnFrameOkSpec)

/-- 'laws.FnFrameBytes', WHERE WHAT IT READS IS OF BULK AT MOST 1048576: true; the input reads as it did. -/
def fnFrameBytesUptoRow : OpenClaim := { program := "ytpompkogpdnlcaa", sum := "ae9de57100202591b258928d8aa2f83349e586e22ff27fbe851bf8b0ae62333b", func := "loop.example/netstack/laws.FnFrameBytes", spec := "fnFrameBytes", apart := false, narrowed := true }
def FnFrameBytesUptoSaid : Prop := fnFrameBytesUptoRow.holds Try.pinned (OpenSpec.upto fnFrameBytesSpec)

/-- 'laws.FnFrameFrom', WHERE WHAT IT READS IS OF BULK AT MOST 1048576: true; the input reads as it did. -/
def fnFrameFromUptoRow : OpenClaim := { program := "ytpompkogpdnlcaa", sum := "ae9de57100202591b258928d8aa2f83349e586e22ff27fbe851bf8b0ae62333b", func := "loop.example/netstack/laws.FnFrameFrom", spec := "fnFrameFrom", apart := false, narrowed := true }
def FnFrameFromUptoSaid : Prop := fnFrameFromUptoRow.holds Try.pinned (OpenSpec.upto fnFrameFromSpec)

/-- 'laws.FnFrameFor', WHERE WHAT IT READS IS OF BULK AT MOST 1048576: true; the input reads as it did. -/
def fnFrameForUptoRow : OpenClaim := { program := "ytpompkogpdnlcaa", sum := "ae9de57100202591b258928d8aa2f83349e586e22ff27fbe851bf8b0ae62333b", func := "loop.example/netstack/laws.FnFrameFor", spec := "fnFrameFor", apart := false, narrowed := true }
def FnFrameForUptoSaid : Prop := fnFrameForUptoRow.holds Try.pinned (OpenSpec.upto fnFrameForSpec)

/-- 'laws.FnExactFrameOk', WHERE WHAT IT READS IS OF BULK AT MOST 1048576: true; the input reads as it did. -/
def fnExactFrameOkUptoRow : OpenClaim := { program := "ytpompkogpdnlcaa", sum := "ae9de57100202591b258928d8aa2f83349e586e22ff27fbe851bf8b0ae62333b", func := "loop.example/netstack/laws.FnExactFrameOk", spec := "fnExactFrameOk", apart := false, narrowed := true }
def FnExactFrameOkUptoSaid : Prop := fnExactFrameOkUptoRow.holds Try.pinned (OpenSpec.upto fnExactFrameOkSpec)

/-- 'laws.FnExactFrameBytes', WHERE WHAT IT READS IS OF BULK AT MOST 1048576: true; the input reads as it did. -/
def fnExactFrameBytesUptoRow : OpenClaim := { program := "ytpompkogpdnlcaa", sum := "ae9de57100202591b258928d8aa2f83349e586e22ff27fbe851bf8b0ae62333b", func := "loop.example/netstack/laws.FnExactFrameBytes", spec := "fnExactFrameBytes", apart := false, narrowed := true }
def FnExactFrameBytesUptoSaid : Prop := fnExactFrameBytesUptoRow.holds Try.pinned (OpenSpec.upto fnExactFrameBytesSpec)

/-- 'laws.FnExactFrameFrom', WHERE WHAT IT READS IS OF BULK AT MOST 1048576: true; the input reads as it did. -/
def fnExactFrameFromUptoRow : OpenClaim := { program := "ytpompkogpdnlcaa", sum := "ae9de57100202591b258928d8aa2f83349e586e22ff27fbe851bf8b0ae62333b", func := "loop.example/netstack/laws.FnExactFrameFrom", spec := "fnExactFrameFrom", apart := false, narrowed := true }
def FnExactFrameFromUptoSaid : Prop := fnExactFrameFromUptoRow.holds Try.pinned (OpenSpec.upto fnExactFrameFromSpec)

/-- 'laws.FnExactFrameFor', WHERE WHAT IT READS IS OF BULK AT MOST 1048576: true; the input reads as it did. -/
def fnExactFrameForUptoRow : OpenClaim := { program := "ytpompkogpdnlcaa", sum := "ae9de57100202591b258928d8aa2f83349e586e22ff27fbe851bf8b0ae62333b", func := "loop.example/netstack/laws.FnExactFrameFor", spec := "fnExactFrameFor", apart := false, narrowed := true }
def FnExactFrameForUptoSaid : Prop := fnExactFrameForUptoRow.holds Try.pinned (OpenSpec.upto fnExactFrameForSpec)

end Rows
end Go.Proofs.Ytpompkogpdnlcaa
