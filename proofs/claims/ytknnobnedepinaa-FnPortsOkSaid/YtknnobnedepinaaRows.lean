/-
  No cell of these rows narrows 'for every input' (looked for: loops, veiled, ifaces, maps, wideKeys, modest, calm, conditions, laid).
  DERIVED. THE GIVEN ROWS OF THIS SEAT. 12 by the template 'for every input the law returns true; each argument reads behind the call as it read before'; 0 by the template 'total and deterministic' (their statements: YtknnobnedepinaaTotals.lean).
  GIVEN WITH THE SEED: the statements are not yours to turn. If you find one false, say at which input.
  Laid BY PROGRAM, IN A SANDBOX (cutbox-rows.mjs): the forced cells as the released guide's own fill.sh prints them over the translation da6b0a0df6b2f5c0… (all of the seat's roots in one cut). By AI agents, Wed Nov 11 2026. No macro, syntax, notation, axiom, sorry.
-/
import Derived.Test.YtknnobnedepinaaChecked
import GoSem.Claim
import GoSem.ClaimJoined
import GoSem.ClaimMapViews
import Derived.JoinedTies
import Derived.KernelRfl
namespace Go.Proofs.Ytknnobnedepinaa
/- THE CELL 'sum', in the pinned program and in every row, IS THE sha256 OF THE DUMP (.gsa) THAT YtknnobnedepinaaProg.lean LOADS. Nothing in Lean hashes anything: it is a label: what it is worth is what the hold of that sum in a sandbox is worth. -/
noncomputable def Try.pinned : Pinned := { name := "ytknnobnedepinaa", sum := "da6b0a0df6b2f5c0c8c64fbdfa4ca21007d6ac0b4a41b91bbb5a6733d3de9963", checked := Try.checked }
namespace Rows
def none {H : Type} : Left H := { results := [], args := [] }

/-- 'laws.FnMailOk': WHATEVER THE INPUT: true; the input reads as it did. -/
def fnMailOkSpec : ChangeSpec := { name := "fnMailOk", fn := fun _ => fun
  | [d] => { results := [.lit (.bool true)], args := [d] }
  | _ => none }
def fnMailOkRow : OpenClaim := { program := "ytknnobnedepinaa", sum := "da6b0a0df6b2f5c0c8c64fbdfa4ca21007d6ac0b4a41b91bbb5a6733d3de9963", func := "loop.example/netstack/laws.FnMailOk", spec := "fnMailOk", apart := false }
def FnMailOkSaid : Prop := fnMailOkRow.holds Try.pinned (OpenSpec.ofChange fnMailOkSpec)

/-- ITS FALSE NEIGHBOUR: 'it returns false'. Refute it at one input. -/
def fnMailOkWrong : ChangeSpec := { name := "fnMailOk", fn := fun _ => fun
  | [d] => { results := [.lit (.bool false)], args := [d] }
  | _ => none }
def FnMailOkWrongFalsely : Prop := fnMailOkRow.holds Try.pinned (OpenSpec.ofChange fnMailOkWrong)

/-- 'laws.FnMailBytes': WHATEVER THE INPUT: true; the input reads as it did. -/
def fnMailBytesSpec : ChangeSpec := { name := "fnMailBytes", fn := fun _ => fun
  | [d] => { results := [.lit (.bool true)], args := [d] }
  | _ => none }
def fnMailBytesRow : OpenClaim := { program := "ytknnobnedepinaa", sum := "da6b0a0df6b2f5c0c8c64fbdfa4ca21007d6ac0b4a41b91bbb5a6733d3de9963", func := "loop.example/netstack/laws.FnMailBytes", spec := "fnMailBytes", apart := false }
def FnMailBytesSaid : Prop := fnMailBytesRow.holds Try.pinned (OpenSpec.ofChange fnMailBytesSpec)

/-- ITS FALSE NEIGHBOUR: 'it returns false'. Refute it at one input. -/
def fnMailBytesWrong : ChangeSpec := { name := "fnMailBytes", fn := fun _ => fun
  | [d] => { results := [.lit (.bool false)], args := [d] }
  | _ => none }
def FnMailBytesWrongFalsely : Prop := fnMailBytesRow.holds Try.pinned (OpenSpec.ofChange fnMailBytesWrong)

/-- 'laws.FnMailFrom': WHATEVER THE INPUT: true; the input reads as it did. -/
def fnMailFromSpec : ChangeSpec := { name := "fnMailFrom", fn := fun _ => fun
  | [d] => { results := [.lit (.bool true)], args := [d] }
  | _ => none }
def fnMailFromRow : OpenClaim := { program := "ytknnobnedepinaa", sum := "da6b0a0df6b2f5c0c8c64fbdfa4ca21007d6ac0b4a41b91bbb5a6733d3de9963", func := "loop.example/netstack/laws.FnMailFrom", spec := "fnMailFrom", apart := false }
def FnMailFromSaid : Prop := fnMailFromRow.holds Try.pinned (OpenSpec.ofChange fnMailFromSpec)

/-- ITS FALSE NEIGHBOUR: 'it returns false'. Refute it at one input. -/
def fnMailFromWrong : ChangeSpec := { name := "fnMailFrom", fn := fun _ => fun
  | [d] => { results := [.lit (.bool false)], args := [d] }
  | _ => none }
def FnMailFromWrongFalsely : Prop := fnMailFromRow.holds Try.pinned (OpenSpec.ofChange fnMailFromWrong)

/-- 'laws.FnPortsOk': WHATEVER THE INPUT: true; the input reads as it did. -/
def fnPortsOkSpec : ChangeSpec := { name := "fnPortsOk", fn := fun _ => fun
  | [d] => { results := [.lit (.bool true)], args := [d] }
  | _ => none }
def fnPortsOkRow : OpenClaim := { program := "ytknnobnedepinaa", sum := "da6b0a0df6b2f5c0c8c64fbdfa4ca21007d6ac0b4a41b91bbb5a6733d3de9963", func := "loop.example/netstack/laws.FnPortsOk", spec := "fnPortsOk", apart := false }
def FnPortsOkSaid : Prop := fnPortsOkRow.holds Try.pinned (OpenSpec.ofChange fnPortsOkSpec)

/-- ITS FALSE NEIGHBOUR: 'it returns false'. Refute it at one input. -/
def fnPortsOkWrong : ChangeSpec := { name := "fnPortsOk", fn := fun _ => fun
  | [d] => { results := [.lit (.bool false)], args := [d] }
  | _ => none }
def FnPortsOkWrongFalsely : Prop := fnPortsOkRow.holds Try.pinned (OpenSpec.ofChange fnPortsOkWrong)

/-- 'laws.FnPortListen': WHATEVER THE INPUT: true; the input reads as it did. -/
def fnPortListenSpec : ChangeSpec := { name := "fnPortListen", fn := fun _ => fun
  | [d] => { results := [.lit (.bool true)], args := [d] }
  | _ => none }
def fnPortListenRow : OpenClaim := { program := "ytknnobnedepinaa", sum := "da6b0a0df6b2f5c0c8c64fbdfa4ca21007d6ac0b4a41b91bbb5a6733d3de9963", func := "loop.example/netstack/laws.FnPortListen", spec := "fnPortListen", apart := false }
def FnPortListenSaid : Prop := fnPortListenRow.holds Try.pinned (OpenSpec.ofChange fnPortListenSpec)

/-- ITS FALSE NEIGHBOUR: 'it returns false'. Refute it at one input. -/
def fnPortListenWrong : ChangeSpec := { name := "fnPortListen", fn := fun _ => fun
  | [d] => { results := [.lit (.bool false)], args := [d] }
  | _ => none }
def FnPortListenWrongFalsely : Prop := fnPortListenRow.holds Try.pinned (OpenSpec.ofChange fnPortListenWrong)

/-- 'laws.FnPortHear': WHATEVER THE INPUT: true; the input reads as it did. -/
def fnPortHearSpec : ChangeSpec := { name := "fnPortHear", fn := fun _ => fun
  | [d] => { results := [.lit (.bool true)], args := [d] }
  | _ => none }
def fnPortHearRow : OpenClaim := { program := "ytknnobnedepinaa", sum := "da6b0a0df6b2f5c0c8c64fbdfa4ca21007d6ac0b4a41b91bbb5a6733d3de9963", func := "loop.example/netstack/laws.FnPortHear", spec := "fnPortHear", apart := false }
def FnPortHearSaid : Prop := fnPortHearRow.holds Try.pinned (OpenSpec.ofChange fnPortHearSpec)

/-- ITS FALSE NEIGHBOUR: 'it returns false'. Refute it at one input. -/
def fnPortHearWrong : ChangeSpec := { name := "fnPortHear", fn := fun _ => fun
  | [d] => { results := [.lit (.bool false)], args := [d] }
  | _ => none }
def FnPortHearWrongFalsely : Prop := fnPortHearRow.holds Try.pinned (OpenSpec.ofChange fnPortHearWrong)

/-- 'laws.FnExactMailOk': WHATEVER THE INPUT: true; the input reads as it did. -/
def fnExactMailOkSpec : ChangeSpec := { name := "fnExactMailOk", fn := fun _ => fun
  | [d] => { results := [.lit (.bool true)], args := [d] }
  | _ => none }
def fnExactMailOkRow : OpenClaim := { program := "ytknnobnedepinaa", sum := "da6b0a0df6b2f5c0c8c64fbdfa4ca21007d6ac0b4a41b91bbb5a6733d3de9963", func := "loop.example/netstack/laws.FnExactMailOk", spec := "fnExactMailOk", apart := false }
def FnExactMailOkSaid : Prop := fnExactMailOkRow.holds Try.pinned (OpenSpec.ofChange fnExactMailOkSpec)

/-- ITS FALSE NEIGHBOUR: 'it returns false'. Refute it at one input. -/
def fnExactMailOkWrong : ChangeSpec := { name := "fnExactMailOk", fn := fun _ => fun
  | [d] => { results := [.lit (.bool false)], args := [d] }
  | _ => none }
def FnExactMailOkWrongFalsely : Prop := fnExactMailOkRow.holds Try.pinned (OpenSpec.ofChange fnExactMailOkWrong)

/-- 'laws.FnExactMailBytes': WHATEVER THE INPUT: true; the input reads as it did. -/
def fnExactMailBytesSpec : ChangeSpec := { name := "fnExactMailBytes", fn := fun _ => fun
  | [d1, d2] => { results := [.lit (.bool true)], args := [d1, d2] }
  | _ => none }
def fnExactMailBytesRow : OpenClaim := { program := "ytknnobnedepinaa", sum := "da6b0a0df6b2f5c0c8c64fbdfa4ca21007d6ac0b4a41b91bbb5a6733d3de9963", func := "loop.example/netstack/laws.FnExactMailBytes", spec := "fnExactMailBytes", apart := false }
def FnExactMailBytesSaid : Prop := fnExactMailBytesRow.holds Try.pinned (OpenSpec.ofChange fnExactMailBytesSpec)

/-- ITS FALSE NEIGHBOUR: 'it returns false'. Refute it at one input. -/
def fnExactMailBytesWrong : ChangeSpec := { name := "fnExactMailBytes", fn := fun _ => fun
  | [d1, d2] => { results := [.lit (.bool false)], args := [d1, d2] }
  | _ => none }
def FnExactMailBytesWrongFalsely : Prop := fnExactMailBytesRow.holds Try.pinned (OpenSpec.ofChange fnExactMailBytesWrong)

/-- 'laws.FnExactMailFrom': WHATEVER THE INPUT: true; the input reads as it did. -/
def fnExactMailFromSpec : ChangeSpec := { name := "fnExactMailFrom", fn := fun _ => fun
  | [d1, d2, d3] => { results := [.lit (.bool true)], args := [d1, d2, d3] }
  | _ => none }
def fnExactMailFromRow : OpenClaim := { program := "ytknnobnedepinaa", sum := "da6b0a0df6b2f5c0c8c64fbdfa4ca21007d6ac0b4a41b91bbb5a6733d3de9963", func := "loop.example/netstack/laws.FnExactMailFrom", spec := "fnExactMailFrom", apart := false }
def FnExactMailFromSaid : Prop := fnExactMailFromRow.holds Try.pinned (OpenSpec.ofChange fnExactMailFromSpec)

/-- ITS FALSE NEIGHBOUR: 'it returns false'. Refute it at one input. -/
def fnExactMailFromWrong : ChangeSpec := { name := "fnExactMailFrom", fn := fun _ => fun
  | [d1, d2, d3] => { results := [.lit (.bool false)], args := [d1, d2, d3] }
  | _ => none }
def FnExactMailFromWrongFalsely : Prop := fnExactMailFromRow.holds Try.pinned (OpenSpec.ofChange fnExactMailFromWrong)

/-- 'laws.FnExactPortsOk': WHATEVER THE INPUT: true; the input reads as it did. -/
def fnExactPortsOkSpec : ChangeSpec := { name := "fnExactPortsOk", fn := fun _ => fun
  | [d] => { results := [.lit (.bool true)], args := [d] }
  | _ => none }
def fnExactPortsOkRow : OpenClaim := { program := "ytknnobnedepinaa", sum := "da6b0a0df6b2f5c0c8c64fbdfa4ca21007d6ac0b4a41b91bbb5a6733d3de9963", func := "loop.example/netstack/laws.FnExactPortsOk", spec := "fnExactPortsOk", apart := false }
def FnExactPortsOkSaid : Prop := fnExactPortsOkRow.holds Try.pinned (OpenSpec.ofChange fnExactPortsOkSpec)

/-- ITS FALSE NEIGHBOUR: 'it returns false'. Refute it at one input. -/
def fnExactPortsOkWrong : ChangeSpec := { name := "fnExactPortsOk", fn := fun _ => fun
  | [d] => { results := [.lit (.bool false)], args := [d] }
  | _ => none }
def FnExactPortsOkWrongFalsely : Prop := fnExactPortsOkRow.holds Try.pinned (OpenSpec.ofChange fnExactPortsOkWrong)

/-- 'laws.FnExactPortListen': WHATEVER THE INPUT: true; the input reads as it did. -/
def fnExactPortListenSpec : ChangeSpec := { name := "fnExactPortListen", fn := fun _ => fun
  | [d1, d2] => { results := [.lit (.bool true)], args := [d1, d2] }
  | _ => none }
def fnExactPortListenRow : OpenClaim := { program := "ytknnobnedepinaa", sum := "da6b0a0df6b2f5c0c8c64fbdfa4ca21007d6ac0b4a41b91bbb5a6733d3de9963", func := "loop.example/netstack/laws.FnExactPortListen", spec := "fnExactPortListen", apart := false }
def FnExactPortListenSaid : Prop := fnExactPortListenRow.holds Try.pinned (OpenSpec.ofChange fnExactPortListenSpec)

/-- ITS FALSE NEIGHBOUR: 'it returns false'. Refute it at one input. -/
def fnExactPortListenWrong : ChangeSpec := { name := "fnExactPortListen", fn := fun _ => fun
  | [d1, d2] => { results := [.lit (.bool false)], args := [d1, d2] }
  | _ => none }
def FnExactPortListenWrongFalsely : Prop := fnExactPortListenRow.holds Try.pinned (OpenSpec.ofChange fnExactPortListenWrong)

/-- 'laws.FnExactPortHear': WHATEVER THE INPUT: true; the input reads as it did. -/
def fnExactPortHearSpec : ChangeSpec := { name := "fnExactPortHear", fn := fun _ => fun
  | [d1, d2, d3] => { results := [.lit (.bool true)], args := [d1, d2, d3] }
  | _ => none }
def fnExactPortHearRow : OpenClaim := { program := "ytknnobnedepinaa", sum := "da6b0a0df6b2f5c0c8c64fbdfa4ca21007d6ac0b4a41b91bbb5a6733d3de9963", func := "loop.example/netstack/laws.FnExactPortHear", spec := "fnExactPortHear", apart := false }
def FnExactPortHearSaid : Prop := fnExactPortHearRow.holds Try.pinned (OpenSpec.ofChange fnExactPortHearSpec)

/-- ITS FALSE NEIGHBOUR: 'it returns false'. Refute it at one input. -/
def fnExactPortHearWrong : ChangeSpec := { name := "fnExactPortHear", fn := fun _ => fun
  | [d1, d2, d3] => { results := [.lit (.bool false)], args := [d1, d2, d3] }
  | _ => none }
def FnExactPortHearWrongFalsely : Prop := fnExactPortHearRow.holds Try.pinned (OpenSpec.ofChange fnExactPortHearWrong)

/- THE SECOND FORM. 'bulk': how many values and letters a reading holds, each counted each time it is reached (what is shared counts as often as it is met; a slice's spare places count too). A statement '..UptoSaid' is the law's where the arguments, and the package variables that the reading takes, are together of bulk at most 1048576: NARROWER than '..Said'. Prove '..Said' where nothing that the law and all that it calls make is longer than what came in: it says more and counts as full. Else prove '..UptoSaid'. A law counts once. -/
mutual
def uptoBulk {H : Type} : DataW H → Nat
  | .lit (.string bytes) => bytes.length + 1
  | .lit _ => 1
  | .nil => 1
  | .ptr d => uptoBulk d + 1
  | .slice elems spare => uptoBulkAll elems + uptoBulkAll spare + 1
  | .agg parts => uptoBulkAll parts + 1
  | .iface _ d => uptoBulk d + 1
  | .map entries => uptoBulkEntries entries + 1
  | .held _ => 1
def uptoBulkAll {H : Type} : List (DataW H) → Nat
  | [] => 0
  | d :: r => uptoBulk d + uptoBulkAll r
def uptoBulkEntries {H : Type} : List (Lit × DataW H) → Nat
  | [] => 0
  | x :: r => uptoBulkEntry x + uptoBulkEntries r
def uptoBulkEntry {H : Type} : Lit × DataW H → Nat
  | (.string bytes, d) => bytes.length + uptoBulk d + 1
  | (_, d) => uptoBulk d + 1
 end
def uptoSmall : (H : Type) → List (DataW H) → Bool := fun _ ds => decide (uptoBulkAll ds ≤ 1048576)
def OpenSpec.upto (s : _root_.Go.ChangeSpec) : _root_.Go.OpenSpec := { _root_.Go.OpenSpec.ofChange s with cond := some uptoSmall }

/-- 'laws.FnMailOk', WHERE WHAT IT READS IS OF BULK AT MOST 1048576: true; the input reads as it did. -/
def fnMailOkUptoRow : OpenClaim := { program := "ytknnobnedepinaa", sum := "da6b0a0df6b2f5c0c8c64fbdfa4ca21007d6ac0b4a41b91bbb5a6733d3de9963", func := "loop.example/netstack/laws.FnMailOk", spec := "fnMailOk", apart := false, narrowed := true }
def FnMailOkUptoSaid : Prop := fnMailOkUptoRow.holds Try.pinned (OpenSpec.upto fnMailOkSpec)

/-- 'laws.FnMailBytes', WHERE WHAT IT READS IS OF BULK AT MOST 1048576: true; the input reads as it did. -/
def fnMailBytesUptoRow : OpenClaim := { program := "ytknnobnedepinaa", sum := "da6b0a0df6b2f5c0c8c64fbdfa4ca21007d6ac0b4a41b91bbb5a6733d3de9963", func := "loop.example/netstack/laws.FnMailBytes", spec := "fnMailBytes", apart := false, narrowed := true }
def FnMailBytesUptoSaid : Prop := fnMailBytesUptoRow.holds Try.pinned (OpenSpec.upto fnMailBytesSpec)

/-- 'laws.FnMailFrom', WHERE WHAT IT READS IS OF BULK AT MOST 1048576: true; the input reads as it did. -/
def fnMailFromUptoRow : OpenClaim := { program := "ytknnobnedepinaa", sum := "da6b0a0df6b2f5c0c8c64fbdfa4ca21007d6ac0b4a41b91bbb5a6733d3de9963", func := "loop.example/netstack/laws.FnMailFrom", spec := "fnMailFrom", apart := false, narrowed := true }
def FnMailFromUptoSaid : Prop := fnMailFromUptoRow.holds Try.pinned (OpenSpec.upto fnMailFromSpec)

/-- 'laws.FnPortsOk', WHERE WHAT IT READS IS OF BULK AT MOST 1048576: true; the input reads as it did. -/
def fnPortsOkUptoRow : OpenClaim := { program := "ytknnobnedepinaa", sum := "da6b0a0df6b2f5c0c8c64fbdfa4ca21007d6ac0b4a41b91bbb5a6733d3de9963", func := "loop.example/netstack/laws.FnPortsOk", spec := "fnPortsOk", apart := false, narrowed := true }
def FnPortsOkUptoSaid : Prop := fnPortsOkUptoRow.holds Try.pinned (OpenSpec.upto fnPortsOkSpec)

/-- 'laws.FnPortListen', WHERE WHAT IT READS IS OF BULK AT MOST 1048576: true; the input reads as it did. -/
def fnPortListenUptoRow : OpenClaim := { program := "ytknnobnedepinaa", sum := "da6b0a0df6b2f5c0c8c64fbdfa4ca21007d6ac0b4a41b91bbb5a6733d3de9963", func := "loop.example/netstack/laws.FnPortListen", spec := "fnPortListen", apart := false, narrowed := true }
def FnPortListenUptoSaid : Prop := fnPortListenUptoRow.holds Try.pinned (OpenSpec.upto fnPortListenSpec)

/-- 'laws.FnPortHear', WHERE WHAT IT READS IS OF BULK AT MOST 1048576: true; the input reads as it did. -/
def fnPortHearUptoRow : OpenClaim := { program := "ytknnobnedepinaa", sum := "da6b0a0df6b2f5c0c8c64fbdfa4ca21007d6ac0b4a41b91bbb5a6733d3de9963", func := "loop.example/netstack/laws.FnPortHear", spec := "fnPortHear", apart := false, narrowed := true }
def FnPortHearUptoSaid : Prop := fnPortHearUptoRow.holds Try.pinned (OpenSpec.upto fnPortHearSpec)

/-- 'laws.FnExactMailOk', WHERE WHAT IT READS IS OF BULK AT MOST 1048576: true; the input reads as it did. -/
def fnExactMailOkUptoRow : OpenClaim := { program := "ytknnobnedepinaa", sum := "da6b0a0df6b2f5c0c8c64fbdfa4ca21007d6ac0b4a41b91bbb5a6733d3de9963", func := "loop.example/netstack/laws.FnExactMailOk", spec := "fnExactMailOk", apart := false, narrowed := true }
def FnExactMailOkUptoSaid : Prop := fnExactMailOkUptoRow.holds Try.pinned (OpenSpec.upto fnExactMailOkSpec)

/-- 'laws.FnExactMailBytes', WHERE WHAT IT READS IS OF BULK AT MOST 1048576: true; the input reads as it did. -/
def fnExactMailBytesUptoRow : OpenClaim := { program := "ytknnobnedepinaa", sum := "da6b0a0df6b2f5c0c8c64fbdfa4ca21007d6ac0b4a41b91bbb5a6733d3de9963", func := "loop.example/netstack/laws.FnExactMailBytes", spec := "fnExactMailBytes", apart := false, narrowed := true }
def FnExactMailBytesUptoSaid : Prop := fnExactMailBytesUptoRow.holds Try.pinned (OpenSpec.upto fnExactMailBytesSpec)

/-- 'laws.FnExactMailFrom', WHERE WHAT IT READS IS OF BULK AT MOST 1048576: true; the input reads as it did. -/
def fnExactMailFromUptoRow : OpenClaim := { program := "ytknnobnedepinaa", sum := "da6b0a0df6b2f5c0c8c64fbdfa4ca21007d6ac0b4a41b91bbb5a6733d3de9963", func := "loop.example/netstack/laws.FnExactMailFrom", spec := "fnExactMailFrom", apart := false, narrowed := true }
def FnExactMailFromUptoSaid : Prop := fnExactMailFromUptoRow.holds Try.pinned (OpenSpec.upto fnExactMailFromSpec)

/-- 'laws.FnExactPortsOk', WHERE WHAT IT READS IS OF BULK AT MOST 1048576: true; the input reads as it did. -/
def fnExactPortsOkUptoRow : OpenClaim := { program := "ytknnobnedepinaa", sum := "da6b0a0df6b2f5c0c8c64fbdfa4ca21007d6ac0b4a41b91bbb5a6733d3de9963", func := "loop.example/netstack/laws.FnExactPortsOk", spec := "fnExactPortsOk", apart := false, narrowed := true }
def FnExactPortsOkUptoSaid : Prop := fnExactPortsOkUptoRow.holds Try.pinned (OpenSpec.upto fnExactPortsOkSpec)

/-- 'laws.FnExactPortListen', WHERE WHAT IT READS IS OF BULK AT MOST 1048576: true; the input reads as it did. -/
def fnExactPortListenUptoRow : OpenClaim := { program := "ytknnobnedepinaa", sum := "da6b0a0df6b2f5c0c8c64fbdfa4ca21007d6ac0b4a41b91bbb5a6733d3de9963", func := "loop.example/netstack/laws.FnExactPortListen", spec := "fnExactPortListen", apart := false, narrowed := true }
def FnExactPortListenUptoSaid : Prop := fnExactPortListenUptoRow.holds Try.pinned (OpenSpec.upto fnExactPortListenSpec)

/-- 'laws.FnExactPortHear', WHERE WHAT IT READS IS OF BULK AT MOST 1048576: true; the input reads as it did. -/
def fnExactPortHearUptoRow : OpenClaim := { program := "ytknnobnedepinaa", sum := "da6b0a0df6b2f5c0c8c64fbdfa4ca21007d6ac0b4a41b91bbb5a6733d3de9963", func := "loop.example/netstack/laws.FnExactPortHear", spec := "fnExactPortHear", apart := false, narrowed := true }
def FnExactPortHearUptoSaid : Prop := fnExactPortHearUptoRow.holds Try.pinned (OpenSpec.upto fnExactPortHearSpec)

end Rows
end Go.Proofs.Ytknnobnedepinaa
