/-
  No cell of these rows narrows 'for every input' (looked for: loops, veiled, ifaces, maps, wideKeys, modest, calm, conditions, laid).
  DERIVED. THE GIVEN ROWS OF THIS SEAT. 12 by the template 'for every input the law returns true; each argument reads behind the call as it read before'; 0 by the template 'total and deterministic' (their statements: YthbcoakimbpkgaaTotals.lean).
  GIVEN WITH THE SEED: the statements are not yours to turn. If you find one false, say at which input.
  Laid BY PROGRAM, IN A SANDBOX (cutbox-rows.mjs): the forced cells as the released guide's own fill.sh prints them over the translation 8e4e33d7569ee7d2… (all of the seat's roots in one cut). By AI agents, Wed Nov 11 2026. No macro, syntax, notation, axiom, sorry.
-/
import Derived.Test.YthbcoakimbpkgaaChecked
import GoSem.Claim
import GoSem.ClaimJoined
import GoSem.ClaimMapViews
import Derived.JoinedTies
import Derived.KernelRfl
namespace Go.Proofs.Ythbcoakimbpkgaa
/- THE CELL 'sum', in the pinned program and in every row, IS THE sha256 OF THE DUMP (.gsa) THAT YthbcoakimbpkgaaProg.lean LOADS. Nothing in Lean hashes anything: it is a label: what it is worth is what the hold of that sum in a sandbox is worth. -/
noncomputable def Try.pinned : Pinned := { name := "ythbcoakimbpkgaa", sum := "8e4e33d7569ee7d234f70bd5d9bb70cbb613b9ee93a4c74d3f884a556f19ea93", checked := Try.checked }
namespace Rows
def none {H : Type} : Left H := { results := [], args := [] }

/-- 'laws.FnStationOk': WHATEVER THE INPUT: true; the input reads as it did. -/
def fnStationOkSpec : ChangeSpec := { name := "fnStationOk", fn := fun _ => fun
  | [d] => { results := [.lit (.bool true)], args := [d] }
  | _ => none }
def fnStationOkRow : OpenClaim := { program := "ythbcoakimbpkgaa", sum := "8e4e33d7569ee7d234f70bd5d9bb70cbb613b9ee93a4c74d3f884a556f19ea93", func := "loop.example/netstack/laws.FnStationOk", spec := "fnStationOk", apart := false }
def FnStationOkSaid : Prop := fnStationOkRow.holds Try.pinned (OpenSpec.ofChange fnStationOkSpec)

/-- ITS FALSE NEIGHBOUR: 'it returns false'. Refute it at one input. -/
def fnStationOkWrong : ChangeSpec := { name := "fnStationOk", fn := fun _ => fun
  | [d] => { results := [.lit (.bool false)], args := [d] }
  | _ => none }
def FnStationOkWrongFalsely : Prop := fnStationOkRow.holds Try.pinned (OpenSpec.ofChange fnStationOkWrong)

/-- 'laws.FnForward': WHATEVER THE INPUT: true; the input reads as it did. -/
def fnForwardSpec : ChangeSpec := { name := "fnForward", fn := fun _ => fun
  | [d] => { results := [.lit (.bool true)], args := [d] }
  | _ => none }
def fnForwardRow : OpenClaim := { program := "ythbcoakimbpkgaa", sum := "8e4e33d7569ee7d234f70bd5d9bb70cbb613b9ee93a4c74d3f884a556f19ea93", func := "loop.example/netstack/laws.FnForward", spec := "fnForward", apart := false }
def FnForwardSaid : Prop := fnForwardRow.holds Try.pinned (OpenSpec.ofChange fnForwardSpec)

/-- ITS FALSE NEIGHBOUR: 'it returns false'. Refute it at one input. -/
def fnForwardWrong : ChangeSpec := { name := "fnForward", fn := fun _ => fun
  | [d] => { results := [.lit (.bool false)], args := [d] }
  | _ => none }
def FnForwardWrongFalsely : Prop := fnForwardRow.holds Try.pinned (OpenSpec.ofChange fnForwardWrong)

/-- 'laws.FnNetOk': WHATEVER THE INPUT: true; the input reads as it did. -/
def fnNetOkSpec : ChangeSpec := { name := "fnNetOk", fn := fun _ => fun
  | [d] => { results := [.lit (.bool true)], args := [d] }
  | _ => none }
def fnNetOkRow : OpenClaim := { program := "ythbcoakimbpkgaa", sum := "8e4e33d7569ee7d234f70bd5d9bb70cbb613b9ee93a4c74d3f884a556f19ea93", func := "loop.example/netstack/laws.FnNetOk", spec := "fnNetOk", apart := false }
def FnNetOkSaid : Prop := fnNetOkRow.holds Try.pinned (OpenSpec.ofChange fnNetOkSpec)

/-- ITS FALSE NEIGHBOUR: 'it returns false'. Refute it at one input. -/
def fnNetOkWrong : ChangeSpec := { name := "fnNetOk", fn := fun _ => fun
  | [d] => { results := [.lit (.bool false)], args := [d] }
  | _ => none }
def FnNetOkWrongFalsely : Prop := fnNetOkRow.holds Try.pinned (OpenSpec.ofChange fnNetOkWrong)

/-- 'laws.FnTravel': WHATEVER THE INPUT: true; the input reads as it did. -/
def fnTravelSpec : ChangeSpec := { name := "fnTravel", fn := fun _ => fun
  | [d] => { results := [.lit (.bool true)], args := [d] }
  | _ => none }
def fnTravelRow : OpenClaim := { program := "ythbcoakimbpkgaa", sum := "8e4e33d7569ee7d234f70bd5d9bb70cbb613b9ee93a4c74d3f884a556f19ea93", func := "loop.example/netstack/laws.FnTravel", spec := "fnTravel", apart := false }
def FnTravelSaid : Prop := fnTravelRow.holds Try.pinned (OpenSpec.ofChange fnTravelSpec)

/-- ITS FALSE NEIGHBOUR: 'it returns false'. Refute it at one input. -/
def fnTravelWrong : ChangeSpec := { name := "fnTravel", fn := fun _ => fun
  | [d] => { results := [.lit (.bool false)], args := [d] }
  | _ => none }
def FnTravelWrongFalsely : Prop := fnTravelRow.holds Try.pinned (OpenSpec.ofChange fnTravelWrong)

/-- 'laws.FnPathRoom': WHATEVER THE INPUT: true; the input reads as it did. -/
def fnPathRoomSpec : ChangeSpec := { name := "fnPathRoom", fn := fun _ => fun
  | [d] => { results := [.lit (.bool true)], args := [d] }
  | _ => none }
def fnPathRoomRow : OpenClaim := { program := "ythbcoakimbpkgaa", sum := "8e4e33d7569ee7d234f70bd5d9bb70cbb613b9ee93a4c74d3f884a556f19ea93", func := "loop.example/netstack/laws.FnPathRoom", spec := "fnPathRoom", apart := false }
def FnPathRoomSaid : Prop := fnPathRoomRow.holds Try.pinned (OpenSpec.ofChange fnPathRoomSpec)

/-- ITS FALSE NEIGHBOUR: 'it returns false'. Refute it at one input. -/
def fnPathRoomWrong : ChangeSpec := { name := "fnPathRoom", fn := fun _ => fun
  | [d] => { results := [.lit (.bool false)], args := [d] }
  | _ => none }
def FnPathRoomWrongFalsely : Prop := fnPathRoomRow.holds Try.pinned (OpenSpec.ofChange fnPathRoomWrong)

/-- 'laws.FnFindRoom': WHATEVER THE INPUT: true; the input reads as it did. -/
def fnFindRoomSpec : ChangeSpec := { name := "fnFindRoom", fn := fun _ => fun
  | [d] => { results := [.lit (.bool true)], args := [d] }
  | _ => none }
def fnFindRoomRow : OpenClaim := { program := "ythbcoakimbpkgaa", sum := "8e4e33d7569ee7d234f70bd5d9bb70cbb613b9ee93a4c74d3f884a556f19ea93", func := "loop.example/netstack/laws.FnFindRoom", spec := "fnFindRoom", apart := false }
def FnFindRoomSaid : Prop := fnFindRoomRow.holds Try.pinned (OpenSpec.ofChange fnFindRoomSpec)

/-- ITS FALSE NEIGHBOUR: 'it returns false'. Refute it at one input. -/
def fnFindRoomWrong : ChangeSpec := { name := "fnFindRoom", fn := fun _ => fun
  | [d] => { results := [.lit (.bool false)], args := [d] }
  | _ => none }
def FnFindRoomWrongFalsely : Prop := fnFindRoomRow.holds Try.pinned (OpenSpec.ofChange fnFindRoomWrong)

/-- 'laws.FnExactStationOk': WHATEVER THE INPUT: true; the input reads as it did. -/
def fnExactStationOkSpec : ChangeSpec := { name := "fnExactStationOk", fn := fun _ => fun
  | [d] => { results := [.lit (.bool true)], args := [d] }
  | _ => none }
def fnExactStationOkRow : OpenClaim := { program := "ythbcoakimbpkgaa", sum := "8e4e33d7569ee7d234f70bd5d9bb70cbb613b9ee93a4c74d3f884a556f19ea93", func := "loop.example/netstack/laws.FnExactStationOk", spec := "fnExactStationOk", apart := false }
def FnExactStationOkSaid : Prop := fnExactStationOkRow.holds Try.pinned (OpenSpec.ofChange fnExactStationOkSpec)

/-- ITS FALSE NEIGHBOUR: 'it returns false'. Refute it at one input. -/
def fnExactStationOkWrong : ChangeSpec := { name := "fnExactStationOk", fn := fun _ => fun
  | [d] => { results := [.lit (.bool false)], args := [d] }
  | _ => none }
def FnExactStationOkWrongFalsely : Prop := fnExactStationOkRow.holds Try.pinned (OpenSpec.ofChange fnExactStationOkWrong)

/-- 'laws.FnExactForward': WHATEVER THE INPUT: true; the input reads as it did. -/
def fnExactForwardSpec : ChangeSpec := { name := "fnExactForward", fn := fun _ => fun
  | [d1, d2] => { results := [.lit (.bool true)], args := [d1, d2] }
  | _ => none }
def fnExactForwardRow : OpenClaim := { program := "ythbcoakimbpkgaa", sum := "8e4e33d7569ee7d234f70bd5d9bb70cbb613b9ee93a4c74d3f884a556f19ea93", func := "loop.example/netstack/laws.FnExactForward", spec := "fnExactForward", apart := false }
def FnExactForwardSaid : Prop := fnExactForwardRow.holds Try.pinned (OpenSpec.ofChange fnExactForwardSpec)

/-- ITS FALSE NEIGHBOUR: 'it returns false'. Refute it at one input. -/
def fnExactForwardWrong : ChangeSpec := { name := "fnExactForward", fn := fun _ => fun
  | [d1, d2] => { results := [.lit (.bool false)], args := [d1, d2] }
  | _ => none }
def FnExactForwardWrongFalsely : Prop := fnExactForwardRow.holds Try.pinned (OpenSpec.ofChange fnExactForwardWrong)

/-- 'laws.FnExactNetOk': WHATEVER THE INPUT: true; the input reads as it did. -/
def fnExactNetOkSpec : ChangeSpec := { name := "fnExactNetOk", fn := fun _ => fun
  | [d] => { results := [.lit (.bool true)], args := [d] }
  | _ => none }
def fnExactNetOkRow : OpenClaim := { program := "ythbcoakimbpkgaa", sum := "8e4e33d7569ee7d234f70bd5d9bb70cbb613b9ee93a4c74d3f884a556f19ea93", func := "loop.example/netstack/laws.FnExactNetOk", spec := "fnExactNetOk", apart := false }
def FnExactNetOkSaid : Prop := fnExactNetOkRow.holds Try.pinned (OpenSpec.ofChange fnExactNetOkSpec)

/-- ITS FALSE NEIGHBOUR: 'it returns false'. Refute it at one input. -/
def fnExactNetOkWrong : ChangeSpec := { name := "fnExactNetOk", fn := fun _ => fun
  | [d] => { results := [.lit (.bool false)], args := [d] }
  | _ => none }
def FnExactNetOkWrongFalsely : Prop := fnExactNetOkRow.holds Try.pinned (OpenSpec.ofChange fnExactNetOkWrong)

/-- 'laws.FnExactTravel': WHATEVER THE INPUT: true; the input reads as it did. -/
def fnExactTravelSpec : ChangeSpec := { name := "fnExactTravel", fn := fun _ => fun
  | [d1, d2, d3] => { results := [.lit (.bool true)], args := [d1, d2, d3] }
  | _ => none }
def fnExactTravelRow : OpenClaim := { program := "ythbcoakimbpkgaa", sum := "8e4e33d7569ee7d234f70bd5d9bb70cbb613b9ee93a4c74d3f884a556f19ea93", func := "loop.example/netstack/laws.FnExactTravel", spec := "fnExactTravel", apart := false }
def FnExactTravelSaid : Prop := fnExactTravelRow.holds Try.pinned (OpenSpec.ofChange fnExactTravelSpec)

/-- ITS FALSE NEIGHBOUR: 'it returns false'. Refute it at one input. -/
def fnExactTravelWrong : ChangeSpec := { name := "fnExactTravel", fn := fun _ => fun
  | [d1, d2, d3] => { results := [.lit (.bool false)], args := [d1, d2, d3] }
  | _ => none }
def FnExactTravelWrongFalsely : Prop := fnExactTravelRow.holds Try.pinned (OpenSpec.ofChange fnExactTravelWrong)

/-- 'laws.FnExactPathRoom': WHATEVER THE INPUT: true; the input reads as it did. -/
def fnExactPathRoomSpec : ChangeSpec := { name := "fnExactPathRoom", fn := fun _ => fun
  | [d1, d2, d3] => { results := [.lit (.bool true)], args := [d1, d2, d3] }
  | _ => none }
def fnExactPathRoomRow : OpenClaim := { program := "ythbcoakimbpkgaa", sum := "8e4e33d7569ee7d234f70bd5d9bb70cbb613b9ee93a4c74d3f884a556f19ea93", func := "loop.example/netstack/laws.FnExactPathRoom", spec := "fnExactPathRoom", apart := false }
def FnExactPathRoomSaid : Prop := fnExactPathRoomRow.holds Try.pinned (OpenSpec.ofChange fnExactPathRoomSpec)

/-- ITS FALSE NEIGHBOUR: 'it returns false'. Refute it at one input. -/
def fnExactPathRoomWrong : ChangeSpec := { name := "fnExactPathRoom", fn := fun _ => fun
  | [d1, d2, d3] => { results := [.lit (.bool false)], args := [d1, d2, d3] }
  | _ => none }
def FnExactPathRoomWrongFalsely : Prop := fnExactPathRoomRow.holds Try.pinned (OpenSpec.ofChange fnExactPathRoomWrong)

/-- 'laws.FnExactFindRoom': WHATEVER THE INPUT: true; the input reads as it did. -/
def fnExactFindRoomSpec : ChangeSpec := { name := "fnExactFindRoom", fn := fun _ => fun
  | [d1, d2, d3, d4] => { results := [.lit (.bool true)], args := [d1, d2, d3, d4] }
  | _ => none }
def fnExactFindRoomRow : OpenClaim := { program := "ythbcoakimbpkgaa", sum := "8e4e33d7569ee7d234f70bd5d9bb70cbb613b9ee93a4c74d3f884a556f19ea93", func := "loop.example/netstack/laws.FnExactFindRoom", spec := "fnExactFindRoom", apart := false }
def FnExactFindRoomSaid : Prop := fnExactFindRoomRow.holds Try.pinned (OpenSpec.ofChange fnExactFindRoomSpec)

/-- ITS FALSE NEIGHBOUR: 'it returns false'. Refute it at one input. -/
def fnExactFindRoomWrong : ChangeSpec := { name := "fnExactFindRoom", fn := fun _ => fun
  | [d1, d2, d3, d4] => { results := [.lit (.bool false)], args := [d1, d2, d3, d4] }
  | _ => none }
def FnExactFindRoomWrongFalsely : Prop := fnExactFindRoomRow.holds Try.pinned (OpenSpec.ofChange fnExactFindRoomWrong)

/- THE SECOND FORM. 'bulk': how many values and letters a reading holds, each counted each time it is reached (what is shared counts as often as it is met; a slice's spare places count too). A statement '..UptoSaid' is the law's where the arguments, and the package variables that the reading takes, are together of bulk at most 1048576: NARROWER than '..Said'. Prove '..Said' where nothing that the law and all that it calls make is longer than what came in: it says more and counts as full. Else prove '..UptoSaid'. A law counts once. -/
mutual
def uptoBulk {H : Type} : DataW H → Nat
  | .lit (.string bytes) => bytes.length + 1
  | .lit _ => 1
  | .nil => 1
  | .ptr d => uptoBulk d + 1
  | .slice elems spare => uptoBulkAll elems + uptoBulkAll spare + 1
  | .agg parts => uptoBulkAll parts + 1
  | .iface _ d => uptoBulk d + 1
  | .map entries => uptoBulkEntries entries + 1
  | .held _ => 1
def uptoBulkAll {H : Type} : List (DataW H) → Nat
  | [] => 0
  | d :: r => uptoBulk d + uptoBulkAll r
def uptoBulkEntries {H : Type} : List (Lit × DataW H) → Nat
  | [] => 0
  | x :: r => uptoBulkEntry x + uptoBulkEntries r
def uptoBulkEntry {H : Type} : Lit × DataW H → Nat
  | (.string bytes, d) => bytes.length + uptoBulk d + 1
  | (_, d) => uptoBulk d + 1
 end
def uptoSmall : (H : Type) → List (DataW H) → Bool := fun _ ds => decide (uptoBulkAll ds ≤ 1048576)
def OpenSpec.upto (s : _root_.Go.ChangeSpec) : _root_.Go.OpenSpec := { _root_.Go.OpenSpec.ofChange s with cond := some uptoSmall }

/-- 'laws.FnStationOk', WHERE WHAT IT READS IS OF BULK AT MOST 1048576: true; the input reads as it did. -/
def fnStationOkUptoRow : OpenClaim := { program := "ythbcoakimbpkgaa", sum := "8e4e33d7569ee7d234f70bd5d9bb70cbb613b9ee93a4c74d3f884a556f19ea93", func := "loop.example/netstack/laws.FnStationOk", spec := "fnStationOk", apart := false, narrowed := true }
def FnStationOkUptoSaid : Prop := fnStationOkUptoRow.holds Try.pinned (OpenSpec.upto fnStationOkSpec)

/-- 'laws.FnForward', WHERE WHAT IT READS IS OF BULK AT MOST 1048576: true; the input reads as it did. -/
def fnForwardUptoRow : OpenClaim := { program := "ythbcoakimbpkgaa", sum := "8e4e33d7569ee7d234f70bd5d9bb70cbb613b9ee93a4c74d3f884a556f19ea93", func := "loop.example/netstack/laws.FnForward", spec := "fnForward", apart := false, narrowed := true }
def FnForwardUptoSaid : Prop := fnForwardUptoRow.holds Try.pinned (OpenSpec.upto fnForwardSpec)

/-- 'laws.FnNetOk', WHERE WHAT IT READS IS OF BULK AT MOST 1048576: true; the input reads as it did. -/
def fnNetOkUptoRow : OpenClaim := { program := "ythbcoakimbpkgaa", sum := "8e4e33d7569ee7d234f70bd5d9bb70cbb613b9ee93a4c74d3f884a556f19ea93", func := "loop.example/netstack/laws.FnNetOk", spec := "fnNetOk", apart := false, narrowed := true }
def FnNetOkUptoSaid : Prop := fnNetOkUptoRow.holds Try.pinned (OpenSpec.upto fnNetOkSpec)

/-- 'laws.FnTravel', WHERE WHAT IT READS IS OF BULK AT MOST 1048576: true; the input reads as it did. -/
def fnTravelUptoRow : OpenClaim := { program := "ythbcoakimbpkgaa", sum := "8e4e33d7569ee7d234f70bd5d9bb70cbb613b9ee93a4c74d3f884a556f19ea93", func := "loop.example/netstack/laws.FnTravel", spec := "fnTravel", apart := false, narrowed := true }
def FnTravelUptoSaid : Prop := fnTravelUptoRow.holds Try.pinned (OpenSpec.upto fnTravelSpec)

/-- 'laws.FnPathRoom', WHERE WHAT IT READS IS OF BULK AT MOST 1048576: true; the input reads as it did. -/
def fnPathRoomUptoRow : OpenClaim := { program := "ythbcoakimbpkgaa", sum := "8e4e33d7569ee7d234f70bd5d9bb70cbb613b9ee93a4c74d3f884a556f19ea93", func := "loop.example/netstack/laws.FnPathRoom", spec := "fnPathRoom", apart := false, narrowed := true }
def FnPathRoomUptoSaid : Prop := fnPathRoomUptoRow.holds Try.pinned (OpenSpec.upto fnPathRoomSpec)

/-- 'laws.FnFindRoom', WHERE WHAT IT READS IS OF BULK AT MOST 1048576: true; the input reads as it did. -/
def fnFindRoomUptoRow : OpenClaim := { program := "ythbcoakimbpkgaa", sum := "8e4e33d7569ee7d234f70bd5d9bb70cbb613b9ee93a4c74d3f884a556f19ea93", func := "loop.example/netstack/laws.FnFindRoom", spec := "fnFindRoom", apart := false, narrowed := true }
def FnFindRoomUptoSaid : Prop := fnFindRoomUptoRow.holds Try.pinned (OpenSpec.upto fnFindRoomSpec)

/-- 'laws.FnExactStationOk', WHERE WHAT IT READS IS OF BULK AT MOST 1048576: true; the input reads as it did. -/
def fnExactStationOkUptoRow : OpenClaim := { program := "ythbcoakimbpkgaa", sum := "8e4e33d7569ee7d234f70bd5d9bb70cbb613b9ee93a4c74d3f884a556f19ea93", func := "loop.example/netstack/laws.FnExactStationOk", spec := "fnExactStationOk", apart := false, narrowed := true }
def FnExactStationOkUptoSaid : Prop := fnExactStationOkUptoRow.holds Try.pinned (OpenSpec.upto fnExactStationOkSpec)

/-- 'laws.FnExactForward', WHERE WHAT IT READS IS OF BULK AT MOST 1048576: true; the input reads as it did. -/
def fnExactForwardUptoRow : OpenClaim := { program := "ythbcoakimbpkgaa", sum := "8e4e33d7569ee7d234f70bd5d9bb70cbb613b9ee93a4c74d3f884a556f19ea93", func := "loop.example/netstack/laws.FnExactForward", spec := "fnExactForward", apart := false, narrowed := true }
def FnExactForwardUptoSaid : Prop := fnExactForwardUptoRow.holds Try.pinned (OpenSpec.upto fnExactForwardSpec)

/-- 'laws.FnExactNetOk', WHERE WHAT IT READS IS OF BULK AT MOST 1048576: true; the input reads as it did. -/
def fnExactNetOkUptoRow : OpenClaim := { program := "ythbcoakimbpkgaa", sum := "8e4e33d7569ee7d234f70bd5d9bb70cbb613b9ee93a4c74d3f884a556f19ea93", func := "loop.example/netstack/laws.FnExactNetOk", spec := "fnExactNetOk", apart := false, narrowed := true }
def FnExactNetOkUptoSaid : Prop := fnExactNetOkUptoRow.holds Try.pinned (OpenSpec.upto fnExactNetOkSpec)

/-- 'laws.FnExactTravel', WHERE WHAT IT READS IS OF BULK AT MOST 1048576: true; the input reads as it did. -/
def fnExactTravelUptoRow : OpenClaim := { program := "ythbcoakimbpkgaa", sum := "8e4e33d7569ee7d234f70bd5d9bb70cbb613b9ee93a4c74d3f884a556f19ea93", func := "loop.example/netstack/laws.FnExactTravel", spec := "fnExactTravel", apart := false, narrowed := true }
def FnExactTravelUptoSaid : Prop := fnExactTravelUptoRow.holds Try.pinned (OpenSpec.upto fnExactTravelSpec)

/-- 'laws.FnExactPathRoom', WHERE WHAT IT READS IS OF BULK AT MOST 1048576: true; the input reads as it did. -/
def fnExactPathRoomUptoRow : OpenClaim := { program := "ythbcoakimbpkgaa", sum := "8e4e33d7569ee7d234f70bd5d9bb70cbb613b9ee93a4c74d3f884a556f19ea93", func := "loop.example/netstack/laws.FnExactPathRoom", spec := "fnExactPathRoom", apart := false, narrowed := true }
def FnExactPathRoomUptoSaid : Prop := fnExactPathRoomUptoRow.holds Try.pinned (OpenSpec.upto fnExactPathRoomSpec)

/-- 'laws.FnExactFindRoom', WHERE WHAT IT READS IS OF BULK AT MOST 1048576: true; the input reads as it did. -/
def fnExactFindRoomUptoRow : OpenClaim := { program := "ythbcoakimbpkgaa", sum := "8e4e33d7569ee7d234f70bd5d9bb70cbb613b9ee93a4c74d3f884a556f19ea93", func := "loop.example/netstack/laws.FnExactFindRoom", spec := "fnExactFindRoom", apart := false, narrowed := true }
def FnExactFindRoomUptoSaid : Prop := fnExactFindRoomUptoRow.holds Try.pinned (OpenSpec.upto fnExactFindRoomSpec)

end Rows
end Go.Proofs.Ythbcoakimbpkgaa
