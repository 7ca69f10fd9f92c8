/-
  No cell of these rows narrows 'for every input' (looked for: loops, veiled, ifaces, maps, wideKeys, modest, calm, conditions, laid).
  DERIVED. THE GIVEN ROWS OF THIS SEAT. 5 by the template 'for every input the law returns true; each argument reads behind the call as it read before'; 0 by the template 'total and deterministic' (their statements: YtkfjaeoehhakpaaTotals.lean).
  GIVEN WITH THE SEED: the statements are not yours to turn. If you find one false, say at which input.
  Laid BY PROGRAM, IN A SANDBOX (cutbox-rows.mjs): the forced cells as the released guide's own fill.sh prints them over the translation 6ec4de3e8285deec… (all of the seat's roots in one cut). By AI agents, Wed Nov 11 2026. No macro, syntax, notation, axiom, sorry.
-/
import Derived.Test.YtkfjaeoehhakpaaChecked
import GoSem.Claim
import GoSem.ClaimJoined
import GoSem.ClaimMapViews
import Derived.JoinedTies
import Derived.KernelRfl
namespace Go.Proofs.Ytkfjaeoehhakpaa
/- THE CELL 'sum', in the pinned program and in every row, IS THE sha256 OF THE DUMP (.gsa) THAT YtkfjaeoehhakpaaProg.lean LOADS. Nothing in Lean hashes anything: it is a label: what it is worth is what the hold of that sum in a sandbox is worth. -/
noncomputable def Try.pinned : Pinned := { name := "ytkfjaeoehhakpaa", sum := "6ec4de3e8285deec8d5a3018d43136b7d6e3e48cdd2383987ce4509d819301ac", checked := Try.checked }
namespace Rows
def none {H : Type} : Left H := { results := [], args := [] }

/-- 'laws.FnExactEarOk': WHATEVER THE INPUT: true; the input reads as it did. -/
def fnExactEarOkSpec : ChangeSpec := { name := "fnExactEarOk", fn := fun _ => fun
  | [d] => { results := [.lit (.bool true)], args := [d] }
  | _ => none }
def fnExactEarOkRow : OpenClaim := { program := "ytkfjaeoehhakpaa", sum := "6ec4de3e8285deec8d5a3018d43136b7d6e3e48cdd2383987ce4509d819301ac", func := "loop.example/netstack/laws.FnExactEarOk", spec := "fnExactEarOk", apart := false }
def FnExactEarOkSaid : Prop := fnExactEarOkRow.holds Try.pinned (OpenSpec.ofChange fnExactEarOkSpec)

/-- ITS FALSE NEIGHBOUR: 'it returns false'. Refute it at one input. -/
def fnExactEarOkWrong : ChangeSpec := { name := "fnExactEarOk", fn := fun _ => fun
  | [d] => { results := [.lit (.bool false)], args := [d] }
  | _ => none }
def FnExactEarOkWrongFalsely : Prop := fnExactEarOkRow.holds Try.pinned (OpenSpec.ofChange fnExactEarOkWrong)

/-- 'laws.FnExactEarFree': WHATEVER THE INPUT: true; the input reads as it did. -/
def fnExactEarFreeSpec : ChangeSpec := { name := "fnExactEarFree", fn := fun _ => fun
  | [d] => { results := [.lit (.bool true)], args := [d] }
  | _ => none }
def fnExactEarFreeRow : OpenClaim := { program := "ytkfjaeoehhakpaa", sum := "6ec4de3e8285deec8d5a3018d43136b7d6e3e48cdd2383987ce4509d819301ac", func := "loop.example/netstack/laws.FnExactEarFree", spec := "fnExactEarFree", apart := false }
def FnExactEarFreeSaid : Prop := fnExactEarFreeRow.holds Try.pinned (OpenSpec.ofChange fnExactEarFreeSpec)

/-- ITS FALSE NEIGHBOUR: 'it returns false'. Refute it at one input. -/
def fnExactEarFreeWrong : ChangeSpec := { name := "fnExactEarFree", fn := fun _ => fun
  | [d] => { results := [.lit (.bool false)], args := [d] }
  | _ => none }
def FnExactEarFreeWrongFalsely : Prop := fnExactEarFreeRow.holds Try.pinned (OpenSpec.ofChange fnExactEarFreeWrong)

/-- 'laws.FnExactEarHear': WHATEVER THE INPUT: true; the input reads as it did. -/
def fnExactEarHearSpec : ChangeSpec := { name := "fnExactEarHear", fn := fun _ => fun
  | [d1, d2, d3] => { results := [.lit (.bool true)], args := [d1, d2, d3] }
  | _ => none }
def fnExactEarHearRow : OpenClaim := { program := "ytkfjaeoehhakpaa", sum := "6ec4de3e8285deec8d5a3018d43136b7d6e3e48cdd2383987ce4509d819301ac", func := "loop.example/netstack/laws.FnExactEarHear", spec := "fnExactEarHear", apart := false }
def FnExactEarHearSaid : Prop := fnExactEarHearRow.holds Try.pinned (OpenSpec.ofChange fnExactEarHearSpec)

/-- ITS FALSE NEIGHBOUR: 'it returns false'. Refute it at one input. -/
def fnExactEarHearWrong : ChangeSpec := { name := "fnExactEarHear", fn := fun _ => fun
  | [d1, d2, d3] => { results := [.lit (.bool false)], args := [d1, d2, d3] }
  | _ => none }
def FnExactEarHearWrongFalsely : Prop := fnExactEarHearRow.holds Try.pinned (OpenSpec.ofChange fnExactEarHearWrong)

/-- 'laws.FnExactEarRead': WHATEVER THE INPUT: true; the input reads as it did. -/
def fnExactEarReadSpec : ChangeSpec := { name := "fnExactEarRead", fn := fun _ => fun
  | [d1, d2] => { results := [.lit (.bool true)], args := [d1, d2] }
  | _ => none }
def fnExactEarReadRow : OpenClaim := { program := "ytkfjaeoehhakpaa", sum := "6ec4de3e8285deec8d5a3018d43136b7d6e3e48cdd2383987ce4509d819301ac", func := "loop.example/netstack/laws.FnExactEarRead", spec := "fnExactEarRead", apart := false }
def FnExactEarReadSaid : Prop := fnExactEarReadRow.holds Try.pinned (OpenSpec.ofChange fnExactEarReadSpec)

/-- ITS FALSE NEIGHBOUR: 'it returns false'. Refute it at one input. -/
def fnExactEarReadWrong : ChangeSpec := { name := "fnExactEarRead", fn := fun _ => fun
  | [d1, d2] => { results := [.lit (.bool false)], args := [d1, d2] }
  | _ => none }
def FnExactEarReadWrongFalsely : Prop := fnExactEarReadRow.holds Try.pinned (OpenSpec.ofChange fnExactEarReadWrong)

/-- 'laws.FnExactEarRanges': WHATEVER THE INPUT: true; the input reads as it did. -/
def fnExactEarRangesSpec : ChangeSpec := { name := "fnExactEarRanges", fn := fun _ => fun
  | [d] => { results := [.lit (.bool true)], args := [d] }
  | _ => none }
def fnExactEarRangesRow : OpenClaim := { program := "ytkfjaeoehhakpaa", sum := "6ec4de3e8285deec8d5a3018d43136b7d6e3e48cdd2383987ce4509d819301ac", func := "loop.example/netstack/laws.FnExactEarRanges", spec := "fnExactEarRanges", apart := false }
def FnExactEarRangesSaid : Prop := fnExactEarRangesRow.holds Try.pinned (OpenSpec.ofChange fnExactEarRangesSpec)

/-- ITS FALSE NEIGHBOUR: 'it returns false'. Refute it at one input. -/
def fnExactEarRangesWrong : ChangeSpec := { name := "fnExactEarRanges", fn := fun _ => fun
  | [d] => { results := [.lit (.bool false)], args := [d] }
  | _ => none }
def FnExactEarRangesWrongFalsely : Prop := fnExactEarRangesRow.holds Try.pinned (OpenSpec.ofChange fnExactEarRangesWrong)

/- THE SECOND FORM. 'bulk': how many values and letters a reading holds, each counted each time it is reached (what is shared counts as often as it is met; a slice's spare places count too). A statement '..UptoSaid' is the law's where the arguments, and the package variables that the reading takes, are together of bulk at most 1048576: NARROWER than '..Said'. Prove '..Said' where nothing that the law and all that it calls make is longer than what came in: it says more and counts as full. Else prove '..UptoSaid'. A law counts once. -/
mutual
def uptoBulk {H : Type} : DataW H → Nat
  | .lit (.string bytes) => bytes.length + 1
  | .lit _ => 1
  | .nil => 1
  | .ptr d => uptoBulk d + 1
  | .slice elems spare => uptoBulkAll elems + uptoBulkAll spare + 1
  | .agg parts => uptoBulkAll parts + 1
  | .iface _ d => uptoBulk d + 1
  | .map entries => uptoBulkEntries entries + 1
  | .held _ => 1
def uptoBulkAll {H : Type} : List (DataW H) → Nat
  | [] => 0
  | d :: r => uptoBulk d + uptoBulkAll r
def uptoBulkEntries {H : Type} : List (Lit × DataW H) → Nat
  | [] => 0
  | x :: r => uptoBulkEntry x + uptoBulkEntries r
def uptoBulkEntry {H : Type} : Lit × DataW H → Nat
  | (.string bytes, d) => bytes.length + uptoBulk d + 1
  | (_, d) => uptoBulk d + 1
 end
def uptoSmall : (H : Type) → List (DataW H) → Bool := fun _ ds => decide (uptoBulkAll ds ≤ 1048576)
def OpenSpec.upto (s : _root_.Go.ChangeSpec) : _root_.Go.OpenSpec := { _root_.Go.OpenSpec.ofChange s with cond := some uptoSmall }

/-- 'laws.FnExactEarOk', WHERE WHAT IT READS IS OF BULK AT MOST 1048576: true; the input reads as it did. -/
def fnExactEarOkUptoRow : OpenClaim := { program := "ytkfjaeoehhakpaa", sum := "6ec4de3e8285deec8d5a3018d43136b7d6e3e48cdd2383987ce4509d819301ac", func := "loop.example/netstack/laws.FnExactEarOk", spec := "fnExactEarOk", apart := false, narrowed := true }
def FnExactEarOkUptoSaid : Prop := fnExactEarOkUptoRow.holds Try.pinned (OpenSpec.upto fnExactEarOkSpec)

/-- 'laws.FnExactEarFree', WHERE WHAT IT READS IS OF BULK AT MOST 1048576: true; the input reads as it did. -/
def fnExactEarFreeUptoRow : OpenClaim := { program := "ytkfjaeoehhakpaa", sum := "6ec4de3e8285deec8d5a3018d43136b7d6e3e48cdd2383987ce4509d819301ac", func := "loop.example/netstack/laws.FnExactEarFree", spec := "fnExactEarFree", apart := false, narrowed := true }
def FnExactEarFreeUptoSaid : Prop := fnExactEarFreeUptoRow.holds Try.pinned (OpenSpec.upto fnExactEarFreeSpec)

/-- 'laws.FnExactEarHear', WHERE WHAT IT READS IS OF BULK AT MOST 1048576: true; the input reads as it did. -/
def fnExactEarHearUptoRow : OpenClaim := { program := "ytkfjaeoehhakpaa", sum := "6ec4de3e8285deec8d5a3018d43136b7d6e3e48cdd2383987ce4509d819301ac", func := "loop.example/netstack/laws.FnExactEarHear", spec := "fnExactEarHear", apart := false, narrowed := true }
def FnExactEarHearUptoSaid : Prop := fnExactEarHearUptoRow.holds Try.pinned (OpenSpec.upto fnExactEarHearSpec)

/-- 'laws.FnExactEarRead', WHERE WHAT IT READS IS OF BULK AT MOST 1048576: true; the input reads as it did. -/
def fnExactEarReadUptoRow : OpenClaim := { program := "ytkfjaeoehhakpaa", sum := "6ec4de3e8285deec8d5a3018d43136b7d6e3e48cdd2383987ce4509d819301ac", func := "loop.example/netstack/laws.FnExactEarRead", spec := "fnExactEarRead", apart := false, narrowed := true }
def FnExactEarReadUptoSaid : Prop := fnExactEarReadUptoRow.holds Try.pinned (OpenSpec.upto fnExactEarReadSpec)

/-- 'laws.FnExactEarRanges', WHERE WHAT IT READS IS OF BULK AT MOST 1048576: true; the input reads as it did. -/
def fnExactEarRangesUptoRow : OpenClaim := { program := "ytkfjaeoehhakpaa", sum := "6ec4de3e8285deec8d5a3018d43136b7d6e3e48cdd2383987ce4509d819301ac", func := "loop.example/netstack/laws.FnExactEarRanges", spec := "fnExactEarRanges", apart := false, narrowed := true }
def FnExactEarRangesUptoSaid : Prop := fnExactEarRangesUptoRow.holds Try.pinned (OpenSpec.upto fnExactEarRangesSpec)

end Rows
end Go.Proofs.Ytkfjaeoehhakpaa
