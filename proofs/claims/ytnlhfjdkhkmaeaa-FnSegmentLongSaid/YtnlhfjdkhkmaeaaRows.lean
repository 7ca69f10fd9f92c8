/-
  No cell of these rows narrows 'for every input' (looked for: loops, veiled, ifaces, maps, wideKeys, modest, calm, conditions, laid).
  DERIVED. THE GIVEN ROWS OF THIS SEAT. 8 by the template 'for every input the law returns true; each argument reads behind the call as it read before'; 0 by the template 'total and deterministic' (their statements: YtnlhfjdkhkmaeaaTotals.lean).
  GIVEN WITH THE SEED: the statements are not yours to turn. If you find one false, say at which input.
  Laid BY PROGRAM, IN A SANDBOX (cutbox-rows.mjs): the forced cells as the released guide's own fill.sh prints them over the translation 067181cd0ed51dc3… (all of the seat's roots in one cut). By AI agents, Wed Nov 11 2026. No macro, syntax, notation, axiom, sorry.
-/
import Derived.Test.YtnlhfjdkhkmaeaaChecked
import GoSem.Claim
import GoSem.ClaimJoined
import GoSem.ClaimMapViews
import Derived.JoinedTies
import Derived.KernelRfl
namespace Go.Proofs.Ytnlhfjdkhkmaeaa
/- THE CELL 'sum', in the pinned program and in every row, IS THE sha256 OF THE DUMP (.gsa) THAT YtnlhfjdkhkmaeaaProg.lean LOADS. Nothing in Lean hashes anything: it is a label: what it is worth is what the hold of that sum in a sandbox is worth. -/
noncomputable def Try.pinned : Pinned := { name := "ytnlhfjdkhkmaeaa", sum := "067181cd0ed51dc32c2163d53c9b6e31a5a476b981ba113528cc18c037b7299a", checked := Try.checked }
namespace Rows
def none {H : Type} : Left H := { results := [], args := [] }

/-- 'laws.FnSegmentOk': WHATEVER THE INPUT: true; the input reads as it did. -/
def fnSegmentOkSpec : ChangeSpec := { name := "fnSegmentOk", fn := fun _ => fun
  | [d] => { results := [.lit (.bool true)], args := [d] }
  | _ => none }
def fnSegmentOkRow : OpenClaim := { program := "ytnlhfjdkhkmaeaa", sum := "067181cd0ed51dc32c2163d53c9b6e31a5a476b981ba113528cc18c037b7299a", func := "loop.example/netstack/laws.FnSegmentOk", spec := "fnSegmentOk", apart := false }
def FnSegmentOkSaid : Prop := fnSegmentOkRow.holds Try.pinned (OpenSpec.ofChange fnSegmentOkSpec)

/-- ITS FALSE NEIGHBOUR: 'it returns false'. Refute it at one input. -/
def fnSegmentOkWrong : ChangeSpec := { name := "fnSegmentOk", fn := fun _ => fun
  | [d] => { results := [.lit (.bool false)], args := [d] }
  | _ => none }
def FnSegmentOkWrongFalsely : Prop := fnSegmentOkRow.holds Try.pinned (OpenSpec.ofChange fnSegmentOkWrong)

/-- 'laws.FnSegmentBytes': WHATEVER THE INPUT: true; the input reads as it did. -/
def fnSegmentBytesSpec : ChangeSpec := { name := "fnSegmentBytes", fn := fun _ => fun
  | [d] => { results := [.lit (.bool true)], args := [d] }
  | _ => none }
def fnSegmentBytesRow : OpenClaim := { program := "ytnlhfjdkhkmaeaa", sum := "067181cd0ed51dc32c2163d53c9b6e31a5a476b981ba113528cc18c037b7299a", func := "loop.example/netstack/laws.FnSegmentBytes", spec := "fnSegmentBytes", apart := false }
def FnSegmentBytesSaid : Prop := fnSegmentBytesRow.holds Try.pinned (OpenSpec.ofChange fnSegmentBytesSpec)

/-- ITS FALSE NEIGHBOUR: 'it returns false'. Refute it at one input. -/
def fnSegmentBytesWrong : ChangeSpec := { name := "fnSegmentBytes", fn := fun _ => fun
  | [d] => { results := [.lit (.bool false)], args := [d] }
  | _ => none }
def FnSegmentBytesWrongFalsely : Prop := fnSegmentBytesRow.holds Try.pinned (OpenSpec.ofChange fnSegmentBytesWrong)

/-- 'laws.FnSegmentFrom': WHATEVER THE INPUT: true; the input reads as it did. -/
def fnSegmentFromSpec : ChangeSpec := { name := "fnSegmentFrom", fn := fun _ => fun
  | [d] => { results := [.lit (.bool true)], args := [d] }
  | _ => none }
def fnSegmentFromRow : OpenClaim := { program := "ytnlhfjdkhkmaeaa", sum := "067181cd0ed51dc32c2163d53c9b6e31a5a476b981ba113528cc18c037b7299a", func := "loop.example/netstack/laws.FnSegmentFrom", spec := "fnSegmentFrom", apart := false }
def FnSegmentFromSaid : Prop := fnSegmentFromRow.holds Try.pinned (OpenSpec.ofChange fnSegmentFromSpec)

/-- ITS FALSE NEIGHBOUR: 'it returns false'. Refute it at one input. -/
def fnSegmentFromWrong : ChangeSpec := { name := "fnSegmentFrom", fn := fun _ => fun
  | [d] => { results := [.lit (.bool false)], args := [d] }
  | _ => none }
def FnSegmentFromWrongFalsely : Prop := fnSegmentFromRow.holds Try.pinned (OpenSpec.ofChange fnSegmentFromWrong)

/-- 'laws.FnSegmentLong': WHATEVER THE INPUT: true; the input reads as it did. -/
def fnSegmentLongSpec : ChangeSpec := { name := "fnSegmentLong", fn := fun _ => fun
  | [d] => { results := [.lit (.bool true)], args := [d] }
  | _ => none }
def fnSegmentLongRow : OpenClaim := { program := "ytnlhfjdkhkmaeaa", sum := "067181cd0ed51dc32c2163d53c9b6e31a5a476b981ba113528cc18c037b7299a", func := "loop.example/netstack/laws.FnSegmentLong", spec := "fnSegmentLong", apart := false }
def FnSegmentLongSaid : Prop := fnSegmentLongRow.holds Try.pinned (OpenSpec.ofChange fnSegmentLongSpec)

/-- ITS FALSE NEIGHBOUR: 'it returns false'. Refute it at one input. -/
def fnSegmentLongWrong : ChangeSpec := { name := "fnSegmentLong", fn := fun _ => fun
  | [d] => { results := [.lit (.bool false)], args := [d] }
  | _ => none }
def FnSegmentLongWrongFalsely : Prop := fnSegmentLongRow.holds Try.pinned (OpenSpec.ofChange fnSegmentLongWrong)

/-- 'laws.FnExactSegmentOk': WHATEVER THE INPUT: true; the input reads as it did. -/
def fnExactSegmentOkSpec : ChangeSpec := { name := "fnExactSegmentOk", fn := fun _ => fun
  | [d] => { results := [.lit (.bool true)], args := [d] }
  | _ => none }
def fnExactSegmentOkRow : OpenClaim := { program := "ytnlhfjdkhkmaeaa", sum := "067181cd0ed51dc32c2163d53c9b6e31a5a476b981ba113528cc18c037b7299a", func := "loop.example/netstack/laws.FnExactSegmentOk", spec := "fnExactSegmentOk", apart := false }
def FnExactSegmentOkSaid : Prop := fnExactSegmentOkRow.holds Try.pinned (OpenSpec.ofChange fnExactSegmentOkSpec)

/-- ITS FALSE NEIGHBOUR: 'it returns false'. Refute it at one input. -/
def fnExactSegmentOkWrong : ChangeSpec := { name := "fnExactSegmentOk", fn := fun _ => fun
  | [d] => { results := [.lit (.bool false)], args := [d] }
  | _ => none }
def FnExactSegmentOkWrongFalsely : Prop := fnExactSegmentOkRow.holds Try.pinned (OpenSpec.ofChange fnExactSegmentOkWrong)

/-- 'laws.FnExactSegmentBytes': WHATEVER THE INPUT: true; the input reads as it did. -/
def fnExactSegmentBytesSpec : ChangeSpec := { name := "fnExactSegmentBytes", fn := fun _ => fun
  | [d1, d2, d3] => { results := [.lit (.bool true)], args := [d1, d2, d3] }
  | _ => none }
def fnExactSegmentBytesRow : OpenClaim := { program := "ytnlhfjdkhkmaeaa", sum := "067181cd0ed51dc32c2163d53c9b6e31a5a476b981ba113528cc18c037b7299a", func := "loop.example/netstack/laws.FnExactSegmentBytes", spec := "fnExactSegmentBytes", apart := false }
def FnExactSegmentBytesSaid : Prop := fnExactSegmentBytesRow.holds Try.pinned (OpenSpec.ofChange fnExactSegmentBytesSpec)

/-- ITS FALSE NEIGHBOUR: 'it returns false'. Refute it at one input. -/
def fnExactSegmentBytesWrong : ChangeSpec := { name := "fnExactSegmentBytes", fn := fun _ => fun
  | [d1, d2, d3] => { results := [.lit (.bool false)], args := [d1, d2, d3] }
  | _ => none }
def FnExactSegmentBytesWrongFalsely : Prop := fnExactSegmentBytesRow.holds Try.pinned (OpenSpec.ofChange fnExactSegmentBytesWrong)

/-- 'laws.FnExactSegmentFrom': WHATEVER THE INPUT: true; the input reads as it did. -/
def fnExactSegmentFromSpec : ChangeSpec := { name := "fnExactSegmentFrom", fn := fun _ => fun
  | [d1, d2, d3] => { results := [.lit (.bool true)], args := [d1, d2, d3] }
  | _ => none }
def fnExactSegmentFromRow : OpenClaim := { program := "ytnlhfjdkhkmaeaa", sum := "067181cd0ed51dc32c2163d53c9b6e31a5a476b981ba113528cc18c037b7299a", func := "loop.example/netstack/laws.FnExactSegmentFrom", spec := "fnExactSegmentFrom", apart := false }
def FnExactSegmentFromSaid : Prop := fnExactSegmentFromRow.holds Try.pinned (OpenSpec.ofChange fnExactSegmentFromSpec)

/-- ITS FALSE NEIGHBOUR: 'it returns false'. Refute it at one input. -/
def fnExactSegmentFromWrong : ChangeSpec := { name := "fnExactSegmentFrom", fn := fun _ => fun
  | [d1, d2, d3] => { results := [.lit (.bool false)], args := [d1, d2, d3] }
  | _ => none }
def FnExactSegmentFromWrongFalsely : Prop := fnExactSegmentFromRow.holds Try.pinned (OpenSpec.ofChange fnExactSegmentFromWrong)

/-- 'laws.FnExactSegmentLong': WHATEVER THE INPUT: true; the input reads as it did. -/
def fnExactSegmentLongSpec : ChangeSpec := { name := "fnExactSegmentLong", fn := fun _ => fun
  | [d] => { results := [.lit (.bool true)], args := [d] }
  | _ => none }
def fnExactSegmentLongRow : OpenClaim := { program := "ytnlhfjdkhkmaeaa", sum := "067181cd0ed51dc32c2163d53c9b6e31a5a476b981ba113528cc18c037b7299a", func := "loop.example/netstack/laws.FnExactSegmentLong", spec := "fnExactSegmentLong", apart := false }
def FnExactSegmentLongSaid : Prop := fnExactSegmentLongRow.holds Try.pinned (OpenSpec.ofChange fnExactSegmentLongSpec)

/-- ITS FALSE NEIGHBOUR: 'it returns false'. Refute it at one input. -/
def fnExactSegmentLongWrong : ChangeSpec := { name := "fnExactSegmentLong", fn := fun _ => fun
  | [d] => { results := [.lit (.bool false)], args := [d] }
  | _ => none }
def FnExactSegmentLongWrongFalsely : Prop := fnExactSegmentLongRow.holds Try.pinned (OpenSpec.ofChange fnExactSegmentLongWrong)

/- THE SECOND FORM. 'bulk': how many values and letters a reading holds, each counted each time it is reached (what is shared counts as often as it is met; a slice's spare places count too). A statement '..UptoSaid' is the law's where the arguments, and the package variables that the reading takes, are together of bulk at most 1048576: NARROWER than '..Said'. Prove '..Said' where nothing that the law and all that it calls make is longer than what came in: it says more and counts as full. Else prove '..UptoSaid'. A law counts once. -/
mutual
def uptoBulk {H : Type} : DataW H → Nat
  | .lit (.string bytes) => bytes.length + 1
  | .lit _ => 1
  | .nil => 1
  | .ptr d => uptoBulk d + 1
  | .slice elems spare => uptoBulkAll elems + uptoBulkAll spare + 1
  | .agg parts => uptoBulkAll parts + 1
  | .iface _ d => uptoBulk d + 1
  | .map entries => uptoBulkEntries entries + 1
  | .held _ => 1
def uptoBulkAll {H : Type} : List (DataW H) → Nat
  | [] => 0
  | d :: r => uptoBulk d + uptoBulkAll r
def uptoBulkEntries {H : Type} : List (Lit × DataW H) → Nat
  | [] => 0
  | x :: r => uptoBulkEntry x + uptoBulkEntries r
def uptoBulkEntry {H : Type} : Lit × DataW H → Nat
  | (.string bytes, d) => bytes.length + uptoBulk d + 1
  | (_, d) => uptoBulk d + 1
 end
def uptoSmall : (H : Type) → List (DataW H) → Bool := fun _ ds => decide (uptoBulkAll ds ≤ 1048576)
def OpenSpec.upto (s : _root_.Go.ChangeSpec) : _root_.Go.OpenSpec := { _root_.Go.OpenSpec.ofChange s with cond := some uptoSmall }

/-- 'laws.FnSegmentOk', WHERE WHAT IT READS IS OF BULK AT MOST 1048576: true; the input reads as it did. -/
def fnSegmentOkUptoRow : OpenClaim := { program := "ytnlhfjdkhkmaeaa", sum := "067181cd0ed51dc32c2163d53c9b6e31a5a476b981ba113528cc18c037b7299a", func := "loop.example/netstack/laws.FnSegmentOk", spec := "fnSegmentOk", apart := false, narrowed := true }
def FnSegmentOkUptoSaid : Prop := fnSegmentOkUptoRow.holds Try.pinned (OpenSpec.upto fnSegmentOkSpec)

/-- 'laws.FnSegmentBytes', WHERE WHAT IT READS IS OF BULK AT MOST 1048576: true; the input reads as it did. -/
def fnSegmentBytesUptoRow : OpenClaim := { program := "ytnlhfjdkhkmaeaa", sum := "067181cd0ed51dc32c2163d53c9b6e31a5a476b981ba113528cc18c037b7299a", func := "loop.example/netstack/laws.FnSegmentBytes", spec := "fnSegmentBytes", apart := false, narrowed := true }
def FnSegmentBytesUptoSaid : Prop := fnSegmentBytesUptoRow.holds Try.pinned (OpenSpec.upto fnSegmentBytesSpec)

/-- 'laws.FnSegmentFrom', WHERE WHAT IT READS IS OF BULK AT MOST 1048576: true; the input reads as it did. -/
def fnSegmentFromUptoRow : OpenClaim := { program := "ytnlhfjdkhkmaeaa", sum := "067181cd0ed51dc32c2163d53c9b6e31a5a476b981ba113528cc18c037b7299a", func := "loop.example/netstack/laws.FnSegmentFrom", spec := "fnSegmentFrom", apart := false, narrowed := true }
def FnSegmentFromUptoSaid : Prop := fnSegmentFromUptoRow.holds Try.pinned (OpenSpec.upto fnSegmentFromSpec)

/-- 'laws.FnSegmentLong', WHERE WHAT IT READS IS OF BULK AT MOST 1048576: true; the input reads as it did. -/
def fnSegmentLongUptoRow : OpenClaim := { program := "ytnlhfjdkhkmaeaa", sum := "067181cd0ed51dc32c2163d53c9b6e31a5a476b981ba113528cc18c037b7299a", func := "loop.example/netstack/laws.FnSegmentLong", spec := "fnSegmentLong", apart := false, narrowed := true }
def FnSegmentLongUptoSaid : Prop := fnSegmentLongUptoRow.holds Try.pinned (OpenSpec.upto fnSegmentLongSpec)

/-- 'laws.FnExactSegmentOk', WHERE WHAT IT READS IS OF BULK AT MOST 1048576: true; the input reads as it did. -/
def fnExactSegmentOkUptoRow : OpenClaim := { program := "ytnlhfjdkhkmaeaa", sum := "067181cd0ed51dc32c2163d53c9b6e31a5a476b981ba113528cc18c037b7299a", func := "loop.example/netstack/laws.FnExactSegmentOk", spec := "fnExactSegmentOk", apart := false, narrowed := true }
def FnExactSegmentOkUptoSaid : Prop := fnExactSegmentOkUptoRow.holds Try.pinned (OpenSpec.upto fnExactSegmentOkSpec)

/-- 'laws.FnExactSegmentBytes', WHERE WHAT IT READS IS OF BULK AT MOST 1048576: true; the input reads as it did. -/
def fnExactSegmentBytesUptoRow : OpenClaim := { program := "ytnlhfjdkhkmaeaa", sum := "067181cd0ed51dc32c2163d53c9b6e31a5a476b981ba113528cc18c037b7299a", func := "loop.example/netstack/laws.FnExactSegmentBytes", spec := "fnExactSegmentBytes", apart := false, narrowed := true }
def FnExactSegmentBytesUptoSaid : Prop := fnExactSegmentBytesUptoRow.holds Try.pinned (OpenSpec.upto fnExactSegmentBytesSpec)

/-- 'laws.FnExactSegmentFrom', WHERE WHAT IT READS IS OF BULK AT MOST 1048576: true; the input reads as it did. -/
def fnExactSegmentFromUptoRow : OpenClaim := { program := "ytnlhfjdkhkmaeaa", sum := "067181cd0ed51dc32c2163d53c9b6e31a5a476b981ba113528cc18c037b7299a", func := "loop.example/netstack/laws.FnExactSegmentFrom", spec := "fnExactSegmentFrom", apart := false, narrowed := true }
def FnExactSegmentFromUptoSaid : Prop := fnExactSegmentFromUptoRow.holds Try.pinned (OpenSpec.upto fnExactSegmentFromSpec)

/-- 'laws.FnExactSegmentLong', WHERE WHAT IT READS IS OF BULK AT MOST 1048576: true; the input reads as it did. -/
def fnExactSegmentLongUptoRow : OpenClaim := { program := "ytnlhfjdkhkmaeaa", sum := "067181cd0ed51dc32c2163d53c9b6e31a5a476b981ba113528cc18c037b7299a", func := "loop.example/netstack/laws.FnExactSegmentLong", spec := "fnExactSegmentLong", apart := false, narrowed := true }
def FnExactSegmentLongUptoSaid : Prop := fnExactSegmentLongUptoRow.holds Try.pinned (OpenSpec.upto fnExactSegmentLongSpec)

end Rows
end Go.Proofs.Ytnlhfjdkhkmaeaa
