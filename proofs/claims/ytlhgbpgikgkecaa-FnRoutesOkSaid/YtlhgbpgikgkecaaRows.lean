/-
  No cell of these rows narrows 'for every input' (looked for: loops, veiled, ifaces, maps, wideKeys, modest, calm, conditions, laid).
  DERIVED. THE GIVEN ROWS OF THIS SEAT. 7 by the template 'for every input the law returns true; each argument reads behind the call as it read before'; 0 by the template 'total and deterministic' (their statements: YtlhgbpgikgkecaaTotals.lean).
  GIVEN WITH THE SEED: the statements are not yours to turn. If you find one false, say at which input.
  Laid BY PROGRAM, IN A SANDBOX (cutbox-rows.mjs): the forced cells as the released guide's own fill.sh prints them over the translation acf74af0220a854c… (all of the seat's roots in one cut). By AI agents, Wed Nov 11 2026. No macro, syntax, notation, axiom, sorry.
-/
import Derived.Test.YtlhgbpgikgkecaaChecked
import GoSem.Claim
import GoSem.ClaimJoined
import GoSem.ClaimMapViews
import Derived.JoinedTies
import Derived.KernelRfl
namespace Go.Proofs.Ytlhgbpgikgkecaa
/- THE CELL 'sum', in the pinned program and in every row, IS THE sha256 OF THE DUMP (.gsa) THAT YtlhgbpgikgkecaaProg.lean LOADS. Nothing in Lean hashes anything: it is a label: what it is worth is what the hold of that sum in a sandbox is worth. -/
noncomputable def Try.pinned : Pinned := { name := "ytlhgbpgikgkecaa", sum := "acf74af0220a854c0561bf4f4afe9f849602f22b5a056984b9f67fcb4822f1b6", checked := Try.checked }
namespace Rows
def none {H : Type} : Left H := { results := [], args := [] }

/-- 'laws.FnRouteOk': WHATEVER THE INPUT: true; the input reads as it did. -/
def fnRouteOkSpec : ChangeSpec := { name := "fnRouteOk", fn := fun _ => fun
  | [d] => { results := [.lit (.bool true)], args := [d] }
  | _ => none }
def fnRouteOkRow : OpenClaim := { program := "ytlhgbpgikgkecaa", sum := "acf74af0220a854c0561bf4f4afe9f849602f22b5a056984b9f67fcb4822f1b6", func := "loop.example/netstack/laws.FnRouteOk", spec := "fnRouteOk", apart := false }
def FnRouteOkSaid : Prop := fnRouteOkRow.holds Try.pinned (OpenSpec.ofChange fnRouteOkSpec)

/-- ITS FALSE NEIGHBOUR: 'it returns false'. Refute it at one input. -/
def fnRouteOkWrong : ChangeSpec := { name := "fnRouteOk", fn := fun _ => fun
  | [d] => { results := [.lit (.bool false)], args := [d] }
  | _ => none }
def FnRouteOkWrongFalsely : Prop := fnRouteOkRow.holds Try.pinned (OpenSpec.ofChange fnRouteOkWrong)

/-- 'laws.FnRouteFits': WHATEVER THE INPUT: true; the input reads as it did. -/
def fnRouteFitsSpec : ChangeSpec := { name := "fnRouteFits", fn := fun _ => fun
  | [d] => { results := [.lit (.bool true)], args := [d] }
  | _ => none }
def fnRouteFitsRow : OpenClaim := { program := "ytlhgbpgikgkecaa", sum := "acf74af0220a854c0561bf4f4afe9f849602f22b5a056984b9f67fcb4822f1b6", func := "loop.example/netstack/laws.FnRouteFits", spec := "fnRouteFits", apart := false }
def FnRouteFitsSaid : Prop := fnRouteFitsRow.holds Try.pinned (OpenSpec.ofChange fnRouteFitsSpec)

/-- ITS FALSE NEIGHBOUR: 'it returns false'. Refute it at one input. -/
def fnRouteFitsWrong : ChangeSpec := { name := "fnRouteFits", fn := fun _ => fun
  | [d] => { results := [.lit (.bool false)], args := [d] }
  | _ => none }
def FnRouteFitsWrongFalsely : Prop := fnRouteFitsRow.holds Try.pinned (OpenSpec.ofChange fnRouteFitsWrong)

/-- 'laws.FnRoutesOk': WHATEVER THE INPUT: true; the input reads as it did. -/
def fnRoutesOkSpec : ChangeSpec := { name := "fnRoutesOk", fn := fun _ => fun
  | [d] => { results := [.lit (.bool true)], args := [d] }
  | _ => none }
def fnRoutesOkRow : OpenClaim := { program := "ytlhgbpgikgkecaa", sum := "acf74af0220a854c0561bf4f4afe9f849602f22b5a056984b9f67fcb4822f1b6", func := "loop.example/netstack/laws.FnRoutesOk", spec := "fnRoutesOk", apart := false }
def FnRoutesOkSaid : Prop := fnRoutesOkRow.holds Try.pinned (OpenSpec.ofChange fnRoutesOkSpec)

/-- ITS FALSE NEIGHBOUR: 'it returns false'. Refute it at one input. -/
def fnRoutesOkWrong : ChangeSpec := { name := "fnRoutesOk", fn := fun _ => fun
  | [d] => { results := [.lit (.bool false)], args := [d] }
  | _ => none }
def FnRoutesOkWrongFalsely : Prop := fnRoutesOkRow.holds Try.pinned (OpenSpec.ofChange fnRoutesOkWrong)

/-- 'laws.FnRouteTo': WHATEVER THE INPUT: true; the input reads as it did. -/
def fnRouteToSpec : ChangeSpec := { name := "fnRouteTo", fn := fun _ => fun
  | [d] => { results := [.lit (.bool true)], args := [d] }
  | _ => none }
def fnRouteToRow : OpenClaim := { program := "ytlhgbpgikgkecaa", sum := "acf74af0220a854c0561bf4f4afe9f849602f22b5a056984b9f67fcb4822f1b6", func := "loop.example/netstack/laws.FnRouteTo", spec := "fnRouteTo", apart := false }
def FnRouteToSaid : Prop := fnRouteToRow.holds Try.pinned (OpenSpec.ofChange fnRouteToSpec)

/-- ITS FALSE NEIGHBOUR: 'it returns false'. Refute it at one input. -/
def fnRouteToWrong : ChangeSpec := { name := "fnRouteTo", fn := fun _ => fun
  | [d] => { results := [.lit (.bool false)], args := [d] }
  | _ => none }
def FnRouteToWrongFalsely : Prop := fnRouteToRow.holds Try.pinned (OpenSpec.ofChange fnRouteToWrong)

/-- 'laws.FnRoutePut': WHATEVER THE INPUT: true; the input reads as it did. -/
def fnRoutePutSpec : ChangeSpec := { name := "fnRoutePut", fn := fun _ => fun
  | [d] => { results := [.lit (.bool true)], args := [d] }
  | _ => none }
def fnRoutePutRow : OpenClaim := { program := "ytlhgbpgikgkecaa", sum := "acf74af0220a854c0561bf4f4afe9f849602f22b5a056984b9f67fcb4822f1b6", func := "loop.example/netstack/laws.FnRoutePut", spec := "fnRoutePut", apart := false }
def FnRoutePutSaid : Prop := fnRoutePutRow.holds Try.pinned (OpenSpec.ofChange fnRoutePutSpec)

/-- ITS FALSE NEIGHBOUR: 'it returns false'. Refute it at one input. -/
def fnRoutePutWrong : ChangeSpec := { name := "fnRoutePut", fn := fun _ => fun
  | [d] => { results := [.lit (.bool false)], args := [d] }
  | _ => none }
def FnRoutePutWrongFalsely : Prop := fnRoutePutRow.holds Try.pinned (OpenSpec.ofChange fnRoutePutWrong)

/-- 'laws.FnRouteDrop': WHATEVER THE INPUT: true; the input reads as it did. -/
def fnRouteDropSpec : ChangeSpec := { name := "fnRouteDrop", fn := fun _ => fun
  | [d] => { results := [.lit (.bool true)], args := [d] }
  | _ => none }
def fnRouteDropRow : OpenClaim := { program := "ytlhgbpgikgkecaa", sum := "acf74af0220a854c0561bf4f4afe9f849602f22b5a056984b9f67fcb4822f1b6", func := "loop.example/netstack/laws.FnRouteDrop", spec := "fnRouteDrop", apart := false }
def FnRouteDropSaid : Prop := fnRouteDropRow.holds Try.pinned (OpenSpec.ofChange fnRouteDropSpec)

/-- ITS FALSE NEIGHBOUR: 'it returns false'. Refute it at one input. -/
def fnRouteDropWrong : ChangeSpec := { name := "fnRouteDrop", fn := fun _ => fun
  | [d] => { results := [.lit (.bool false)], args := [d] }
  | _ => none }
def FnRouteDropWrongFalsely : Prop := fnRouteDropRow.holds Try.pinned (OpenSpec.ofChange fnRouteDropWrong)

/-- 'laws.FnRoutesLess': WHATEVER THE INPUT: true; the input reads as it did. -/
def fnRoutesLessSpec : ChangeSpec := { name := "fnRoutesLess", fn := fun _ => fun
  | [d] => { results := [.lit (.bool true)], args := [d] }
  | _ => none }
def fnRoutesLessRow : OpenClaim := { program := "ytlhgbpgikgkecaa", sum := "acf74af0220a854c0561bf4f4afe9f849602f22b5a056984b9f67fcb4822f1b6", func := "loop.example/netstack/laws.FnRoutesLess", spec := "fnRoutesLess", apart := false }
def FnRoutesLessSaid : Prop := fnRoutesLessRow.holds Try.pinned (OpenSpec.ofChange fnRoutesLessSpec)

/-- ITS FALSE NEIGHBOUR: 'it returns false'. Refute it at one input. -/
def fnRoutesLessWrong : ChangeSpec := { name := "fnRoutesLess", fn := fun _ => fun
  | [d] => { results := [.lit (.bool false)], args := [d] }
  | _ => none }
def FnRoutesLessWrongFalsely : Prop := fnRoutesLessRow.holds Try.pinned (OpenSpec.ofChange fnRoutesLessWrong)

/- THE SECOND FORM. 'bulk': how many values and letters a reading holds, each counted each time it is reached (what is shared counts as often as it is met; a slice's spare places count too). A statement '..UptoSaid' is the law's where the arguments, and the package variables that the reading takes, are together of bulk at most 1048576: NARROWER than '..Said'. Prove '..Said' where nothing that the law and all that it calls make is longer than what came in: it says more and counts as full. Else prove '..UptoSaid'. A law counts once. -/
mutual
def uptoBulk {H : Type} : DataW H → Nat
  | .lit (.string bytes) => bytes.length + 1
  | .lit _ => 1
  | .nil => 1
  | .ptr d => uptoBulk d + 1
  | .slice elems spare => uptoBulkAll elems + uptoBulkAll spare + 1
  | .agg parts => uptoBulkAll parts + 1
  | .iface _ d => uptoBulk d + 1
  | .map entries => uptoBulkEntries entries + 1
  | .held _ => 1
def uptoBulkAll {H : Type} : List (DataW H) → Nat
  | [] => 0
  | d :: r => uptoBulk d + uptoBulkAll r
def uptoBulkEntries {H : Type} : List (Lit × DataW H) → Nat
  | [] => 0
  | x :: r => uptoBulkEntry x + uptoBulkEntries r
def uptoBulkEntry {H : Type} : Lit × DataW H → Nat
  | (.string bytes, d) => bytes.length + uptoBulk d + 1
  | (_, d) => uptoBulk d + 1
 end
def uptoSmall : (H : Type) → List (DataW H) → Bool := fun _ ds => decide (uptoBulkAll ds ≤ 1048576)
def OpenSpec.upto (s : _root_.Go.ChangeSpec) : _root_.Go.OpenSpec := { _root_.Go.OpenSpec.ofChange s with cond := some uptoSmall }

/-- 'laws.FnRouteOk', WHERE WHAT IT READS IS OF BULK AT MOST 1048576: true; the input reads as it did. -/
def fnRouteOkUptoRow : OpenClaim := { program := "ytlhgbpgikgkecaa", sum := "acf74af0220a854c0561bf4f4afe9f849602f22b5a056984b9f67fcb4822f1b6", func := "loop.example/netstack/laws.FnRouteOk", spec := "fnRouteOk", apart := false, narrowed := true }
def FnRouteOkUptoSaid : Prop := fnRouteOkUptoRow.holds Try.pinned (OpenSpec.upto fnRouteOkSpec)

/-- 'laws.FnRouteFits', WHERE WHAT IT READS IS OF BULK AT MOST 1048576: true; the input reads as it did. -/
def fnRouteFitsUptoRow : OpenClaim := { program := "ytlhgbpgikgkecaa", sum := "acf74af0220a854c0561bf4f4afe9f849602f22b5a056984b9f67fcb4822f1b6", func := "loop.example/netstack/laws.FnRouteFits", spec := "fnRouteFits", apart := false, narrowed := true }
def FnRouteFitsUptoSaid : Prop := fnRouteFitsUptoRow.holds Try.pinned (OpenSpec.upto fnRouteFitsSpec)

/-- 'laws.FnRoutesOk', WHERE WHAT IT READS IS OF BULK AT MOST 1048576: true; the input reads as it did. -/
def fnRoutesOkUptoRow : OpenClaim := { program := "ytlhgbpgikgkecaa", sum := "acf74af0220a854c0561bf4f4afe9f849602f22b5a056984b9f67fcb4822f1b6", func := "loop.example/netstack/laws.FnRoutesOk", spec := "fnRoutesOk", apart := false, narrowed := true }
def FnRoutesOkUptoSaid : Prop := fnRoutesOkUptoRow.holds Try.pinned (OpenSpec.upto fnRoutesOkSpec)

/-- 'laws.FnRouteTo', WHERE WHAT IT READS IS OF BULK AT MOST 1048576: true; the input reads as it did. -/
def fnRouteToUptoRow : OpenClaim := { program := "ytlhgbpgikgkecaa", sum := "acf74af0220a854c0561bf4f4afe9f849602f22b5a056984b9f67fcb4822f1b6", func := "loop.example/netstack/laws.FnRouteTo", spec := "fnRouteTo", apart := false, narrowed := true }
def FnRouteToUptoSaid : Prop := fnRouteToUptoRow.holds Try.pinned (OpenSpec.upto fnRouteToSpec)

/-- 'laws.FnRoutePut', WHERE WHAT IT READS IS OF BULK AT MOST 1048576: true; the input reads as it did. -/
def fnRoutePutUptoRow : OpenClaim := { program := "ytlhgbpgikgkecaa", sum := "acf74af0220a854c0561bf4f4afe9f849602f22b5a056984b9f67fcb4822f1b6", func := "loop.example/netstack/laws.FnRoutePut", spec := "fnRoutePut", apart := false, narrowed := true }
def FnRoutePutUptoSaid : Prop := fnRoutePutUptoRow.holds Try.pinned (OpenSpec.upto fnRoutePutSpec)

/-- 'laws.FnRouteDrop', WHERE WHAT IT READS IS OF BULK AT MOST 1048576: true; the input reads as it did. -/
def fnRouteDropUptoRow : OpenClaim := { program := "ytlhgbpgikgkecaa", sum := "acf74af0220a854c0561bf4f4afe9f849602f22b5a056984b9f67fcb4822f1b6", func := "loop.example/netstack/laws.FnRouteDrop", spec := "fnRouteDrop", apart := false, narrowed := true }
def FnRouteDropUptoSaid : Prop := fnRouteDropUptoRow.holds Try.pinned (OpenSpec.upto fnRouteDropSpec)

/-- 'laws.FnRoutesLess', WHERE WHAT IT READS IS OF BULK AT MOST 1048576: true; the input reads as it did. -/
def fnRoutesLessUptoRow : OpenClaim := { program := "ytlhgbpgikgkecaa", sum := "acf74af0220a854c0561bf4f4afe9f849602f22b5a056984b9f67fcb4822f1b6", func := "loop.example/netstack/laws.FnRoutesLess", spec := "fnRoutesLess", apart := false, narrowed := true }
def FnRoutesLessUptoSaid : Prop := fnRoutesLessUptoRow.holds Try.pinned (OpenSpec.upto fnRoutesLessSpec)

end Rows
end Go.Proofs.Ytlhgbpgikgkecaa
