/-
  No cell of these rows narrows 'for every input' (looked for: loops, veiled, ifaces, maps, wideKeys, modest, calm, conditions, laid).
  DERIVED. THE GIVEN ROWS OF THIS SEAT. 7 by the template 'for every input the law returns true; each argument reads behind the call as it read before'; 0 by the template 'total and deterministic' (their statements: YtinejkcmgecfdaaTotals.lean).
  GIVEN WITH THE SEED: the statements are not yours to turn. If you find one false, say at which input.
  Laid BY PROGRAM, IN A SANDBOX (cutbox-rows.mjs): the forced cells as the released guide's own fill.sh prints them over the translation 6612b5c3372c9714… (all of the seat's roots in one cut). By AI agents, Wed Nov 11 2026. No macro, syntax, notation, axiom, sorry.
-/
import Derived.Test.YtinejkcmgecfdaaChecked
import GoSem.Claim
import GoSem.ClaimJoined
import GoSem.ClaimMapViews
import Derived.JoinedTies
import Derived.KernelRfl
namespace Go.Proofs.Ytinejkcmgecfdaa
/- THE CELL 'sum', in the pinned program and in every row, IS THE sha256 OF THE DUMP (.gsa) THAT YtinejkcmgecfdaaProg.lean LOADS. Nothing in Lean hashes anything: it is a label: what it is worth is what the hold of that sum in a sandbox is worth. -/
noncomputable def Try.pinned : Pinned := { name := "ytinejkcmgecfdaa", sum := "6612b5c3372c9714376b1b2bc233db73c2500730def1381a189a0a307d2fca3e", checked := Try.checked }
namespace Rows
def none {H : Type} : Left H := { results := [], args := [] }

/-- 'laws.FnExactRouteOk': WHATEVER THE INPUT: true; the input reads as it did. -/
def fnExactRouteOkSpec : ChangeSpec := { name := "fnExactRouteOk", fn := fun _ => fun
  | [d] => { results := [.lit (.bool true)], args := [d] }
  | _ => none }
def fnExactRouteOkRow : OpenClaim := { program := "ytinejkcmgecfdaa", sum := "6612b5c3372c9714376b1b2bc233db73c2500730def1381a189a0a307d2fca3e", func := "loop.example/netstack/laws.FnExactRouteOk", spec := "fnExactRouteOk", apart := false }
def FnExactRouteOkSaid : Prop := fnExactRouteOkRow.holds Try.pinned (OpenSpec.ofChange fnExactRouteOkSpec)

/-- ITS FALSE NEIGHBOUR: 'it returns false'. Refute it at one input. -/
def fnExactRouteOkWrong : ChangeSpec := { name := "fnExactRouteOk", fn := fun _ => fun
  | [d] => { results := [.lit (.bool false)], args := [d] }
  | _ => none }
def FnExactRouteOkWrongFalsely : Prop := fnExactRouteOkRow.holds Try.pinned (OpenSpec.ofChange fnExactRouteOkWrong)

/-- 'laws.FnExactRouteFits': WHATEVER THE INPUT: true; the input reads as it did. -/
def fnExactRouteFitsSpec : ChangeSpec := { name := "fnExactRouteFits", fn := fun _ => fun
  | [d1, d2] => { results := [.lit (.bool true)], args := [d1, d2] }
  | _ => none }
def fnExactRouteFitsRow : OpenClaim := { program := "ytinejkcmgecfdaa", sum := "6612b5c3372c9714376b1b2bc233db73c2500730def1381a189a0a307d2fca3e", func := "loop.example/netstack/laws.FnExactRouteFits", spec := "fnExactRouteFits", apart := false }
def FnExactRouteFitsSaid : Prop := fnExactRouteFitsRow.holds Try.pinned (OpenSpec.ofChange fnExactRouteFitsSpec)

/-- ITS FALSE NEIGHBOUR: 'it returns false'. Refute it at one input. -/
def fnExactRouteFitsWrong : ChangeSpec := { name := "fnExactRouteFits", fn := fun _ => fun
  | [d1, d2] => { results := [.lit (.bool false)], args := [d1, d2] }
  | _ => none }
def FnExactRouteFitsWrongFalsely : Prop := fnExactRouteFitsRow.holds Try.pinned (OpenSpec.ofChange fnExactRouteFitsWrong)

/-- 'laws.FnExactRoutesOk': WHATEVER THE INPUT: true; the input reads as it did. -/
def fnExactRoutesOkSpec : ChangeSpec := { name := "fnExactRoutesOk", fn := fun _ => fun
  | [d] => { results := [.lit (.bool true)], args := [d] }
  | _ => none }
def fnExactRoutesOkRow : OpenClaim := { program := "ytinejkcmgecfdaa", sum := "6612b5c3372c9714376b1b2bc233db73c2500730def1381a189a0a307d2fca3e", func := "loop.example/netstack/laws.FnExactRoutesOk", spec := "fnExactRoutesOk", apart := false }
def FnExactRoutesOkSaid : Prop := fnExactRoutesOkRow.holds Try.pinned (OpenSpec.ofChange fnExactRoutesOkSpec)

/-- ITS FALSE NEIGHBOUR: 'it returns false'. Refute it at one input. -/
def fnExactRoutesOkWrong : ChangeSpec := { name := "fnExactRoutesOk", fn := fun _ => fun
  | [d] => { results := [.lit (.bool false)], args := [d] }
  | _ => none }
def FnExactRoutesOkWrongFalsely : Prop := fnExactRoutesOkRow.holds Try.pinned (OpenSpec.ofChange fnExactRoutesOkWrong)

/-- 'laws.FnExactRouteTo': WHATEVER THE INPUT: true; the input reads as it did. -/
def fnExactRouteToSpec : ChangeSpec := { name := "fnExactRouteTo", fn := fun _ => fun
  | [d1, d2] => { results := [.lit (.bool true)], args := [d1, d2] }
  | _ => none }
def fnExactRouteToRow : OpenClaim := { program := "ytinejkcmgecfdaa", sum := "6612b5c3372c9714376b1b2bc233db73c2500730def1381a189a0a307d2fca3e", func := "loop.example/netstack/laws.FnExactRouteTo", spec := "fnExactRouteTo", apart := false }
def FnExactRouteToSaid : Prop := fnExactRouteToRow.holds Try.pinned (OpenSpec.ofChange fnExactRouteToSpec)

/-- ITS FALSE NEIGHBOUR: 'it returns false'. Refute it at one input. -/
def fnExactRouteToWrong : ChangeSpec := { name := "fnExactRouteTo", fn := fun _ => fun
  | [d1, d2] => { results := [.lit (.bool false)], args := [d1, d2] }
  | _ => none }
def FnExactRouteToWrongFalsely : Prop := fnExactRouteToRow.holds Try.pinned (OpenSpec.ofChange fnExactRouteToWrong)

/-- 'laws.FnExactRoutePut': WHATEVER THE INPUT: true; the input reads as it did. -/
def fnExactRoutePutSpec : ChangeSpec := { name := "fnExactRoutePut", fn := fun _ => fun
  | [d1, d2] => { results := [.lit (.bool true)], args := [d1, d2] }
  | _ => none }
def fnExactRoutePutRow : OpenClaim := { program := "ytinejkcmgecfdaa", sum := "6612b5c3372c9714376b1b2bc233db73c2500730def1381a189a0a307d2fca3e", func := "loop.example/netstack/laws.FnExactRoutePut", spec := "fnExactRoutePut", apart := false }
def FnExactRoutePutSaid : Prop := fnExactRoutePutRow.holds Try.pinned (OpenSpec.ofChange fnExactRoutePutSpec)

/-- ITS FALSE NEIGHBOUR: 'it returns false'. Refute it at one input. -/
def fnExactRoutePutWrong : ChangeSpec := { name := "fnExactRoutePut", fn := fun _ => fun
  | [d1, d2] => { results := [.lit (.bool false)], args := [d1, d2] }
  | _ => none }
def FnExactRoutePutWrongFalsely : Prop := fnExactRoutePutRow.holds Try.pinned (OpenSpec.ofChange fnExactRoutePutWrong)

/-- 'laws.FnExactRouteDrop': WHATEVER THE INPUT: true; the input reads as it did. -/
def fnExactRouteDropSpec : ChangeSpec := { name := "fnExactRouteDrop", fn := fun _ => fun
  | [d1, d2, d3] => { results := [.lit (.bool true)], args := [d1, d2, d3] }
  | _ => none }
def fnExactRouteDropRow : OpenClaim := { program := "ytinejkcmgecfdaa", sum := "6612b5c3372c9714376b1b2bc233db73c2500730def1381a189a0a307d2fca3e", func := "loop.example/netstack/laws.FnExactRouteDrop", spec := "fnExactRouteDrop", apart := false }
def FnExactRouteDropSaid : Prop := fnExactRouteDropRow.holds Try.pinned (OpenSpec.ofChange fnExactRouteDropSpec)

/-- ITS FALSE NEIGHBOUR: 'it returns false'. Refute it at one input. -/
def fnExactRouteDropWrong : ChangeSpec := { name := "fnExactRouteDrop", fn := fun _ => fun
  | [d1, d2, d3] => { results := [.lit (.bool false)], args := [d1, d2, d3] }
  | _ => none }
def FnExactRouteDropWrongFalsely : Prop := fnExactRouteDropRow.holds Try.pinned (OpenSpec.ofChange fnExactRouteDropWrong)

/-- 'laws.FnExactRoutesLess': WHATEVER THE INPUT: true; the input reads as it did. -/
def fnExactRoutesLessSpec : ChangeSpec := { name := "fnExactRoutesLess", fn := fun _ => fun
  | [d] => { results := [.lit (.bool true)], args := [d] }
  | _ => none }
def fnExactRoutesLessRow : OpenClaim := { program := "ytinejkcmgecfdaa", sum := "6612b5c3372c9714376b1b2bc233db73c2500730def1381a189a0a307d2fca3e", func := "loop.example/netstack/laws.FnExactRoutesLess", spec := "fnExactRoutesLess", apart := false }
def FnExactRoutesLessSaid : Prop := fnExactRoutesLessRow.holds Try.pinned (OpenSpec.ofChange fnExactRoutesLessSpec)

/-- ITS FALSE NEIGHBOUR: 'it returns false'. Refute it at one input. -/
def fnExactRoutesLessWrong : ChangeSpec := { name := "fnExactRoutesLess", fn := fun _ => fun
  | [d] => { results := [.lit (.bool false)], args := [d] }
  | _ => none }
def FnExactRoutesLessWrongFalsely : Prop := fnExactRoutesLessRow.holds Try.pinned (OpenSpec.ofChange fnExactRoutesLessWrong)

/- THE SECOND FORM. 'bulk': how many values and letters a reading holds, each counted each time it is reached (what is shared counts as often as it is met; a slice's spare places count too). A statement '..UptoSaid' is the law's where the arguments, and the package variables that the reading takes, are together of bulk at most 1048576: NARROWER than '..Said'. Prove '..Said' where nothing that the law and all that it calls make is longer than what came in: it says more and counts as full. Else prove '..UptoSaid'. A law counts once. -/
mutual
def uptoBulk {H : Type} : DataW H → Nat
  | .lit (.string bytes) => bytes.length + 1
  | .lit _ => 1
  | .nil => 1
  | .ptr d => uptoBulk d + 1
  | .slice elems spare => uptoBulkAll elems + uptoBulkAll spare + 1
  | .agg parts => uptoBulkAll parts + 1
  | .iface _ d => uptoBulk d + 1
  | .map entries => uptoBulkEntries entries + 1
  | .held _ => 1
def uptoBulkAll {H : Type} : List (DataW H) → Nat
  | [] => 0
  | d :: r => uptoBulk d + uptoBulkAll r
def uptoBulkEntries {H : Type} : List (Lit × DataW H) → Nat
  | [] => 0
  | x :: r => uptoBulkEntry x + uptoBulkEntries r
def uptoBulkEntry {H : Type} : Lit × DataW H → Nat
  | (.string bytes, d) => bytes.length + uptoBulk d + 1
  | (_, d) => uptoBulk d + 1
 end
def uptoSmall : (H : Type) → List (DataW H) → Bool := fun _ ds => decide (uptoBulkAll ds ≤ 1048576)
def OpenSpec.upto (s : _root_.Go.ChangeSpec) : _root_.Go.OpenSpec := { _root_.Go.OpenSpec.ofChange s with cond := some uptoSmall }

/-- 'laws.FnExactRouteOk', WHERE WHAT IT READS IS OF BULK AT MOST 1048576: true; the input reads as it did. -/
def fnExactRouteOkUptoRow : OpenClaim := { program := "ytinejkcmgecfdaa", sum := "6612b5c3372c9714376b1b2bc233db73c2500730def1381a189a0a307d2fca3e", func := "loop.example/netstack/laws.FnExactRouteOk", spec := "fnExactRouteOk", apart := false, narrowed := true }
def FnExactRouteOkUptoSaid : Prop := fnExactRouteOkUptoRow.holds Try.pinned (OpenSpec.upto fnExactRouteOkSpec)

/-- 'laws.FnExactRouteFits', WHERE WHAT IT READS IS OF BULK AT MOST 1048576: true; the input reads as it did. -/
def fnExactRouteFitsUptoRow : OpenClaim := { program := "ytinejkcmgecfdaa", sum := "6612b5c3372c9714376b1b2bc233db73c2500730def1381a189a0a307d2fca3e", func := "loop.example/netstack/laws.FnExactRouteFits", spec := "fnExactRouteFits", apart := false, narrowed := true }
def FnExactRouteFitsUptoSaid : Prop := fnExactRouteFitsUptoRow.holds Try.pinned (OpenSpec.upto fnExactRouteFitsSpec)

/-- 'laws.FnExactRoutesOk', WHERE WHAT IT READS IS OF BULK AT MOST 1048576: true; the input reads as it did. -/
def fnExactRoutesOkUptoRow : OpenClaim := { program := "ytinejkcmgecfdaa", sum := "6612b5c3372c9714376b1b2bc233db73c2500730def1381a189a0a307d2fca3e", func := "loop.example/netstack/laws.FnExactRoutesOk", spec := "fnExactRoutesOk", apart := false, narrowed := true }
def FnExactRoutesOkUptoSaid : Prop := fnExactRoutesOkUptoRow.holds Try.pinned (OpenSpec.upto fnExactRoutesOkSpec)

/-- 'laws.FnExactRouteTo', WHERE WHAT IT READS IS OF BULK AT MOST 1048576: true; the input reads as it did. -/
def fnExactRouteToUptoRow : OpenClaim := { program := "ytinejkcmgecfdaa", sum := "6612b5c3372c9714376b1b2bc233db73c2500730def1381a189a0a307d2fca3e", func := "loop.example/netstack/laws.FnExactRouteTo", spec := "fnExactRouteTo", apart := false, narrowed := true }
def FnExactRouteToUptoSaid : Prop := fnExactRouteToUptoRow.holds Try.pinned (OpenSpec.upto fnExactRouteToSpec)

/-- 'laws.FnExactRoutePut', WHERE WHAT IT READS IS OF BULK AT MOST 1048576: true; the input reads as it did. -/
def fnExactRoutePutUptoRow : OpenClaim := { program := "ytinejkcmgecfdaa", sum := "6612b5c3372c9714376b1b2bc233db73c2500730def1381a189a0a307d2fca3e", func := "loop.example/netstack/laws.FnExactRoutePut", spec := "fnExactRoutePut", apart := false, narrowed := true }
def FnExactRoutePutUptoSaid : Prop := fnExactRoutePutUptoRow.holds Try.pinned (OpenSpec.upto fnExactRoutePutSpec)

/-- 'laws.FnExactRouteDrop', WHERE WHAT IT READS IS OF BULK AT MOST 1048576: true; the input reads as it did. -/
def fnExactRouteDropUptoRow : OpenClaim := { program := "ytinejkcmgecfdaa", sum := "6612b5c3372c9714376b1b2bc233db73c2500730def1381a189a0a307d2fca3e", func := "loop.example/netstack/laws.FnExactRouteDrop", spec := "fnExactRouteDrop", apart := false, narrowed := true }
def FnExactRouteDropUptoSaid : Prop := fnExactRouteDropUptoRow.holds Try.pinned (OpenSpec.upto fnExactRouteDropSpec)

/-- 'laws.FnExactRoutesLess', WHERE WHAT IT READS IS OF BULK AT MOST 1048576: true; the input reads as it did. -/
def fnExactRoutesLessUptoRow : OpenClaim := { program := "ytinejkcmgecfdaa", sum := "6612b5c3372c9714376b1b2bc233db73c2500730def1381a189a0a307d2fca3e", func := "loop.example/netstack/laws.FnExactRoutesLess", spec := "fnExactRoutesLess", apart := false, narrowed := true }
def FnExactRoutesLessUptoSaid : Prop := fnExactRoutesLessUptoRow.holds Try.pinned (OpenSpec.upto fnExactRoutesLessSpec)

end Rows
end Go.Proofs.Ytinejkcmgecfdaa
