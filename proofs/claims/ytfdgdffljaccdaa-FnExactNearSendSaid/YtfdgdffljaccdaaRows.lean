/-
  No cell of these rows narrows 'for every input' (looked for: loops, veiled, ifaces, maps, wideKeys, modest, calm, conditions, laid).
  DERIVED. THE GIVEN ROWS OF THIS SEAT. 8 by the template 'for every input the law returns true; each argument reads behind the call as it read before'; 0 by the template 'total and deterministic' (their statements: YtfdgdffljaccdaaTotals.lean).
  GIVEN WITH THE SEED: the statements are not yours to turn. If you find one false, say at which input.
  Laid BY PROGRAM, IN A SANDBOX (cutbox-rows.mjs): the forced cells as the released guide's own fill.sh prints them over the translation d522652fe2a78e1b… (all of the seat's roots in one cut). By AI agents, Wed Nov 11 2026. No macro, syntax, notation, axiom, sorry.
-/
import Derived.Test.YtfdgdffljaccdaaChecked
import GoSem.Claim
import GoSem.ClaimJoined
import GoSem.ClaimMapViews
import Derived.JoinedTies
import Derived.KernelRfl
namespace Go.Proofs.Ytfdgdffljaccdaa
/- THE CELL 'sum', in the pinned program and in every row, IS THE sha256 OF THE DUMP (.gsa) THAT YtfdgdffljaccdaaProg.lean LOADS. Nothing in Lean hashes anything: it is a label: what it is worth is what the hold of that sum in a sandbox is worth. -/
noncomputable def Try.pinned : Pinned := { name := "ytfdgdffljaccdaa", sum := "d522652fe2a78e1b220c735c6076e5bd8011a01674a600bd7e86bc1ac2b8b8f6", checked := Try.checked }
namespace Rows
def none {H : Type} : Left H := { results := [], args := [] }

/-- 'laws.FnNearOk': WHATEVER THE INPUT: true; the input reads as it did. -/
def fnNearOkSpec : ChangeSpec := { name := "fnNearOk", fn := fun _ => fun
  | [d] => { results := [.lit (.bool true)], args := [d] }
  | _ => none }
def fnNearOkRow : OpenClaim := { program := "ytfdgdffljaccdaa", sum := "d522652fe2a78e1b220c735c6076e5bd8011a01674a600bd7e86bc1ac2b8b8f6", func := "loop.example/netstack/laws.FnNearOk", spec := "fnNearOk", apart := false }
def FnNearOkSaid : Prop := fnNearOkRow.holds Try.pinned (OpenSpec.ofChange fnNearOkSpec)

/-- ITS FALSE NEIGHBOUR: 'it returns false'. Refute it at one input. -/
def fnNearOkWrong : ChangeSpec := { name := "fnNearOk", fn := fun _ => fun
  | [d] => { results := [.lit (.bool false)], args := [d] }
  | _ => none }
def FnNearOkWrongFalsely : Prop := fnNearOkRow.holds Try.pinned (OpenSpec.ofChange fnNearOkWrong)

/-- 'laws.FnNearFind': WHATEVER THE INPUT: true; the input reads as it did. -/
def fnNearFindSpec : ChangeSpec := { name := "fnNearFind", fn := fun _ => fun
  | [d] => { results := [.lit (.bool true)], args := [d] }
  | _ => none }
def fnNearFindRow : OpenClaim := { program := "ytfdgdffljaccdaa", sum := "d522652fe2a78e1b220c735c6076e5bd8011a01674a600bd7e86bc1ac2b8b8f6", func := "loop.example/netstack/laws.FnNearFind", spec := "fnNearFind", apart := false }
def FnNearFindSaid : Prop := fnNearFindRow.holds Try.pinned (OpenSpec.ofChange fnNearFindSpec)

/-- ITS FALSE NEIGHBOUR: 'it returns false'. Refute it at one input. -/
def fnNearFindWrong : ChangeSpec := { name := "fnNearFind", fn := fun _ => fun
  | [d] => { results := [.lit (.bool false)], args := [d] }
  | _ => none }
def FnNearFindWrongFalsely : Prop := fnNearFindRow.holds Try.pinned (OpenSpec.ofChange fnNearFindWrong)

/-- 'laws.FnNearSend': WHATEVER THE INPUT: true; the input reads as it did. -/
def fnNearSendSpec : ChangeSpec := { name := "fnNearSend", fn := fun _ => fun
  | [d] => { results := [.lit (.bool true)], args := [d] }
  | _ => none }
def fnNearSendRow : OpenClaim := { program := "ytfdgdffljaccdaa", sum := "d522652fe2a78e1b220c735c6076e5bd8011a01674a600bd7e86bc1ac2b8b8f6", func := "loop.example/netstack/laws.FnNearSend", spec := "fnNearSend", apart := false }
def FnNearSendSaid : Prop := fnNearSendRow.holds Try.pinned (OpenSpec.ofChange fnNearSendSpec)

/-- ITS FALSE NEIGHBOUR: 'it returns false'. Refute it at one input. -/
def fnNearSendWrong : ChangeSpec := { name := "fnNearSend", fn := fun _ => fun
  | [d] => { results := [.lit (.bool false)], args := [d] }
  | _ => none }
def FnNearSendWrongFalsely : Prop := fnNearSendRow.holds Try.pinned (OpenSpec.ofChange fnNearSendWrong)

/-- 'laws.FnNearHear': WHATEVER THE INPUT: true; the input reads as it did. -/
def fnNearHearSpec : ChangeSpec := { name := "fnNearHear", fn := fun _ => fun
  | [d] => { results := [.lit (.bool true)], args := [d] }
  | _ => none }
def fnNearHearRow : OpenClaim := { program := "ytfdgdffljaccdaa", sum := "d522652fe2a78e1b220c735c6076e5bd8011a01674a600bd7e86bc1ac2b8b8f6", func := "loop.example/netstack/laws.FnNearHear", spec := "fnNearHear", apart := false }
def FnNearHearSaid : Prop := fnNearHearRow.holds Try.pinned (OpenSpec.ofChange fnNearHearSpec)

/-- ITS FALSE NEIGHBOUR: 'it returns false'. Refute it at one input. -/
def fnNearHearWrong : ChangeSpec := { name := "fnNearHear", fn := fun _ => fun
  | [d] => { results := [.lit (.bool false)], args := [d] }
  | _ => none }
def FnNearHearWrongFalsely : Prop := fnNearHearRow.holds Try.pinned (OpenSpec.ofChange fnNearHearWrong)

/-- 'laws.FnExactNearOk': WHATEVER THE INPUT: true; the input reads as it did. -/
def fnExactNearOkSpec : ChangeSpec := { name := "fnExactNearOk", fn := fun _ => fun
  | [d] => { results := [.lit (.bool true)], args := [d] }
  | _ => none }
def fnExactNearOkRow : OpenClaim := { program := "ytfdgdffljaccdaa", sum := "d522652fe2a78e1b220c735c6076e5bd8011a01674a600bd7e86bc1ac2b8b8f6", func := "loop.example/netstack/laws.FnExactNearOk", spec := "fnExactNearOk", apart := false }
def FnExactNearOkSaid : Prop := fnExactNearOkRow.holds Try.pinned (OpenSpec.ofChange fnExactNearOkSpec)

/-- ITS FALSE NEIGHBOUR: 'it returns false'. Refute it at one input. -/
def fnExactNearOkWrong : ChangeSpec := { name := "fnExactNearOk", fn := fun _ => fun
  | [d] => { results := [.lit (.bool false)], args := [d] }
  | _ => none }
def FnExactNearOkWrongFalsely : Prop := fnExactNearOkRow.holds Try.pinned (OpenSpec.ofChange fnExactNearOkWrong)

/-- 'laws.FnExactNearFind': WHATEVER THE INPUT: true; the input reads as it did. -/
def fnExactNearFindSpec : ChangeSpec := { name := "fnExactNearFind", fn := fun _ => fun
  | [d1, d2, d3] => { results := [.lit (.bool true)], args := [d1, d2, d3] }
  | _ => none }
def fnExactNearFindRow : OpenClaim := { program := "ytfdgdffljaccdaa", sum := "d522652fe2a78e1b220c735c6076e5bd8011a01674a600bd7e86bc1ac2b8b8f6", func := "loop.example/netstack/laws.FnExactNearFind", spec := "fnExactNearFind", apart := false }
def FnExactNearFindSaid : Prop := fnExactNearFindRow.holds Try.pinned (OpenSpec.ofChange fnExactNearFindSpec)

/-- ITS FALSE NEIGHBOUR: 'it returns false'. Refute it at one input. -/
def fnExactNearFindWrong : ChangeSpec := { name := "fnExactNearFind", fn := fun _ => fun
  | [d1, d2, d3] => { results := [.lit (.bool false)], args := [d1, d2, d3] }
  | _ => none }
def FnExactNearFindWrongFalsely : Prop := fnExactNearFindRow.holds Try.pinned (OpenSpec.ofChange fnExactNearFindWrong)

/-- 'laws.FnExactNearSend': WHATEVER THE INPUT: true; the input reads as it did. -/
def fnExactNearSendSpec : ChangeSpec := { name := "fnExactNearSend", fn := fun _ => fun
  | [d1, d2, d3, d4] => { results := [.lit (.bool true)], args := [d1, d2, d3, d4] }
  | _ => none }
def fnExactNearSendRow : OpenClaim := { program := "ytfdgdffljaccdaa", sum := "d522652fe2a78e1b220c735c6076e5bd8011a01674a600bd7e86bc1ac2b8b8f6", func := "loop.example/netstack/laws.FnExactNearSend", spec := "fnExactNearSend", apart := false }
def FnExactNearSendSaid : Prop := fnExactNearSendRow.holds Try.pinned (OpenSpec.ofChange fnExactNearSendSpec)

/-- ITS FALSE NEIGHBOUR: 'it returns false'. Refute it at one input. -/
def fnExactNearSendWrong : ChangeSpec := { name := "fnExactNearSend", fn := fun _ => fun
  | [d1, d2, d3, d4] => { results := [.lit (.bool false)], args := [d1, d2, d3, d4] }
  | _ => none }
def FnExactNearSendWrongFalsely : Prop := fnExactNearSendRow.holds Try.pinned (OpenSpec.ofChange fnExactNearSendWrong)

/-- 'laws.FnExactNearHear': WHATEVER THE INPUT: true; the input reads as it did. -/
def fnExactNearHearSpec : ChangeSpec := { name := "fnExactNearHear", fn := fun _ => fun
  | [d1, d2, d3, d4] => { results := [.lit (.bool true)], args := [d1, d2, d3, d4] }
  | _ => none }
def fnExactNearHearRow : OpenClaim := { program := "ytfdgdffljaccdaa", sum := "d522652fe2a78e1b220c735c6076e5bd8011a01674a600bd7e86bc1ac2b8b8f6", func := "loop.example/netstack/laws.FnExactNearHear", spec := "fnExactNearHear", apart := false }
def FnExactNearHearSaid : Prop := fnExactNearHearRow.holds Try.pinned (OpenSpec.ofChange fnExactNearHearSpec)

/-- ITS FALSE NEIGHBOUR: 'it returns false'. Refute it at one input. -/
def fnExactNearHearWrong : ChangeSpec := { name := "fnExactNearHear", fn := fun _ => fun
  | [d1, d2, d3, d4] => { results := [.lit (.bool false)], args := [d1, d2, d3, d4] }
  | _ => none }
def FnExactNearHearWrongFalsely : Prop := fnExactNearHearRow.holds Try.pinned (OpenSpec.ofChange fnExactNearHearWrong)

/- THE SECOND FORM. 'bulk': how many values and letters a reading holds, each counted each time it is reached (what is shared counts as often as it is met; a slice's spare places count too). A statement '..UptoSaid' is the law's where the arguments, and the package variables that the reading takes, are together of bulk at most 1048576: NARROWER than '..Said'. Prove '..Said' where nothing that the law and all that it calls make is longer than what came in: it says more and counts as full. Else prove '..UptoSaid'. A law counts once. -/
mutual
def uptoBulk {H : Type} : DataW H → Nat
  | .lit (.string bytes) => bytes.length + 1
  | .lit _ => 1
  | .nil => 1
  | .ptr d => uptoBulk d + 1
  | .slice elems spare => uptoBulkAll elems + uptoBulkAll spare + 1
  | .agg parts => uptoBulkAll parts + 1
  | .iface _ d => uptoBulk d + 1
  | .map entries => uptoBulkEntries entries + 1
  | .held _ => 1
def uptoBulkAll {H : Type} : List (DataW H) → Nat
  | [] => 0
  | d :: r => uptoBulk d + uptoBulkAll r
def uptoBulkEntries {H : Type} : List (Lit × DataW H) → Nat
  | [] => 0
  | x :: r => uptoBulkEntry x + uptoBulkEntries r
def uptoBulkEntry {H : Type} : Lit × DataW H → Nat
  | (.string bytes, d) => bytes.length + uptoBulk d + 1
  | (_, d) => uptoBulk d + 1
 end
def uptoSmall : (H : Type) → List (DataW H) → Bool := fun _ ds => decide (uptoBulkAll ds ≤ 1048576)
def OpenSpec.upto (s : _root_.Go.ChangeSpec) : _root_.Go.OpenSpec := { _root_.Go.OpenSpec.ofChange s with cond := some uptoSmall }

/-- 'laws.FnNearOk', WHERE WHAT IT READS IS OF BULK AT MOST 1048576: true; the input reads as it did. -/
def fnNearOkUptoRow : OpenClaim := { program := "ytfdgdffljaccdaa", sum := "d522652fe2a78e1b220c735c6076e5bd8011a01674a600bd7e86bc1ac2b8b8f6", func := "loop.example/netstack/laws.FnNearOk", spec := "fnNearOk", apart := false, narrowed := true }
def FnNearOkUptoSaid : Prop := fnNearOkUptoRow.holds Try.pinned (OpenSpec.upto fnNearOkSpec)

/-- 'laws.FnNearFind', WHERE WHAT IT READS IS OF BULK AT MOST 1048576: true; the input reads as it did. -/
def fnNearFindUptoRow : OpenClaim := { program := "ytfdgdffljaccdaa", sum := "d522652fe2a78e1b220c735c6076e5bd8011a01674a600bd7e86bc1ac2b8b8f6", func := "loop.example/netstack/laws.FnNearFind", spec := "fnNearFind", apart := false, narrowed := true }
def FnNearFindUptoSaid : Prop := fnNearFindUptoRow.holds Try.pinned (OpenSpec.upto fnNearFindSpec)

/-- 'laws.FnNearSend', WHERE WHAT IT READS IS OF BULK AT MOST 1048576: true; the input reads as it did. -/
def fnNearSendUptoRow : OpenClaim := { program := "ytfdgdffljaccdaa", sum := "d522652fe2a78e1b220c735c6076e5bd8011a01674a600bd7e86bc1ac2b8b8f6", func := "loop.example/netstack/laws.FnNearSend", spec := "fnNearSend", apart := false, narrowed := true }
def FnNearSendUptoSaid : Prop := fnNearSendUptoRow.holds Try.pinned (OpenSpec.upto fnNearSendSpec)

/-- 'laws.FnNearHear', WHERE WHAT IT READS IS OF BULK AT MOST 1048576: true; the input reads as it did. -/
def fnNearHearUptoRow : OpenClaim := { program := "ytfdgdffljaccdaa", sum := "d522652fe2a78e1b220c735c6076e5bd8011a01674a600bd7e86bc1ac2b8b8f6", func := "loop.example/netstack/laws.FnNearHear", spec := "fnNearHear", apart := false, narrowed := true }
def FnNearHearUptoSaid : Prop := fnNearHearUptoRow.holds Try.pinned (OpenSpec.upto fnNearHearSpec)

/-- 'laws.FnExactNearOk', WHERE WHAT IT READS IS OF BULK AT MOST 1048576: true; the input reads as it did. -/
def fnExactNearOkUptoRow : OpenClaim := { program := "ytfdgdffljaccdaa", sum := "d522652fe2a78e1b220c735c6076e5bd8011a01674a600bd7e86bc1ac2b8b8f6", func := "loop.example/netstack/laws.FnExactNearOk", spec := "fnExactNearOk", apart := false, narrowed := true }
def FnExactNearOkUptoSaid : Prop := fnExactNearOkUptoRow.holds Try.pinned (OpenSpec.upto fnExactNearOkSpec)

/-- 'laws.FnExactNearFind', WHERE WHAT IT READS IS OF BULK AT MOST 1048576: true; the input reads as it did. -/
def fnExactNearFindUptoRow : OpenClaim := { program := "ytfdgdffljaccdaa", sum := "d522652fe2a78e1b220c735c6076e5bd8011a01674a600bd7e86bc1ac2b8b8f6", func := "loop.example/netstack/laws.FnExactNearFind", spec := "fnExactNearFind", apart := false, narrowed := true }
def FnExactNearFindUptoSaid : Prop := fnExactNearFindUptoRow.holds Try.pinned (OpenSpec.upto fnExactNearFindSpec)

/-- 'laws.FnExactNearSend', WHERE WHAT IT READS IS OF BULK AT MOST 1048576: true; the input reads as it did. -/
def fnExactNearSendUptoRow : OpenClaim := { program := "ytfdgdffljaccdaa", sum := "d522652fe2a78e1b220c735c6076e5bd8011a01674a600bd7e86bc1ac2b8b8f6", func := "loop.example/netstack/laws.FnExactNearSend", spec := "fnExactNearSend", apart := false, narrowed := true }
def FnExactNearSendUptoSaid : Prop := fnExactNearSendUptoRow.holds Try.pinned (OpenSpec.upto fnExactNearSendSpec)

/-- 'laws.FnExactNearHear', WHERE WHAT IT READS IS OF BULK AT MOST 1048576: true; the input reads as it did. -/
def fnExactNearHearUptoRow : OpenClaim := { program := "ytfdgdffljaccdaa", sum := "d522652fe2a78e1b220c735c6076e5bd8011a01674a600bd7e86bc1ac2b8b8f6", func := "loop.example/netstack/laws.FnExactNearHear", spec := "fnExactNearHear", apart := false, narrowed := true }
def FnExactNearHearUptoSaid : Prop := fnExactNearHearUptoRow.holds Try.pinned (OpenSpec.upto fnExactNearHearSpec)

end Rows
end Go.Proofs.Ytfdgdffljaccdaa
