/-
  No cell of these rows narrows 'for every input' (looked for: loops, veiled, ifaces, maps, wideKeys, modest, calm, conditions, laid).
  DERIVED. THE GIVEN ROWS OF THIS SEAT. 6 by the template 'for every input the law returns true; each argument reads behind the call as it read before'; 0 by the template 'total and deterministic' (their statements: YtikcpbgnmdhilaaTotals.lean).
  GIVEN WITH THE SEED: the statements are not yours to turn. If you find one false, say at which input.
  Laid BY PROGRAM, IN A SANDBOX (cutbox-rows.mjs): the forced cells as the released guide's own fill.sh prints them over the translation 6085b1cb8442381d… (all of the seat's roots in one cut). By AI agents, Wed Nov 11 2026. No macro, syntax, notation, axiom, sorry.
-/
import Derived.Test.YtikcpbgnmdhilaaChecked
import GoSem.Claim
import GoSem.ClaimJoined
import GoSem.ClaimMapViews
import Derived.JoinedTies
import Derived.KernelRfl
namespace Go.Proofs.Ytikcpbgnmdhilaa
/- THE CELL 'sum', in the pinned program and in every row, IS THE sha256 OF THE DUMP (.gsa) THAT YtikcpbgnmdhilaaProg.lean LOADS. Nothing in Lean hashes anything: it is a label: what it is worth is what the hold of that sum in a sandbox is worth. -/
noncomputable def Try.pinned : Pinned := { name := "ytikcpbgnmdhilaa", sum := "6085b1cb8442381df57ade44fff4492a0463f0b9fe8c87788f693f596b576223", checked := Try.checked }
namespace Rows
def none {H : Type} : Left H := { results := [], args := [] }

/-- 'laws.FnEarOk': WHATEVER THE INPUT: true; the input reads as it did. -/
def fnEarOkSpec : ChangeSpec := { name := "fnEarOk", fn := fun _ => fun
  | [d] => { results := [.lit (.bool true)], args := [d] }
  | _ => none }
def fnEarOkRow : OpenClaim := { program := "ytikcpbgnmdhilaa", sum := "6085b1cb8442381df57ade44fff4492a0463f0b9fe8c87788f693f596b576223", func := "loop.example/netstack/laws.FnEarOk", spec := "fnEarOk", apart := false }
def FnEarOkSaid : Prop := fnEarOkRow.holds Try.pinned (OpenSpec.ofChange fnEarOkSpec)

/-- ITS FALSE NEIGHBOUR: 'it returns false'. Refute it at one input. -/
def fnEarOkWrong : ChangeSpec := { name := "fnEarOk", fn := fun _ => fun
  | [d] => { results := [.lit (.bool false)], args := [d] }
  | _ => none }
def FnEarOkWrongFalsely : Prop := fnEarOkRow.holds Try.pinned (OpenSpec.ofChange fnEarOkWrong)

/-- 'laws.FnEarFree': WHATEVER THE INPUT: true; the input reads as it did. -/
def fnEarFreeSpec : ChangeSpec := { name := "fnEarFree", fn := fun _ => fun
  | [d] => { results := [.lit (.bool true)], args := [d] }
  | _ => none }
def fnEarFreeRow : OpenClaim := { program := "ytikcpbgnmdhilaa", sum := "6085b1cb8442381df57ade44fff4492a0463f0b9fe8c87788f693f596b576223", func := "loop.example/netstack/laws.FnEarFree", spec := "fnEarFree", apart := false }
def FnEarFreeSaid : Prop := fnEarFreeRow.holds Try.pinned (OpenSpec.ofChange fnEarFreeSpec)

/-- ITS FALSE NEIGHBOUR: 'it returns false'. Refute it at one input. -/
def fnEarFreeWrong : ChangeSpec := { name := "fnEarFree", fn := fun _ => fun
  | [d] => { results := [.lit (.bool false)], args := [d] }
  | _ => none }
def FnEarFreeWrongFalsely : Prop := fnEarFreeRow.holds Try.pinned (OpenSpec.ofChange fnEarFreeWrong)

/-- 'laws.FnEarHear': WHATEVER THE INPUT: true; the input reads as it did. -/
def fnEarHearSpec : ChangeSpec := { name := "fnEarHear", fn := fun _ => fun
  | [d] => { results := [.lit (.bool true)], args := [d] }
  | _ => none }
def fnEarHearRow : OpenClaim := { program := "ytikcpbgnmdhilaa", sum := "6085b1cb8442381df57ade44fff4492a0463f0b9fe8c87788f693f596b576223", func := "loop.example/netstack/laws.FnEarHear", spec := "fnEarHear", apart := false }
def FnEarHearSaid : Prop := fnEarHearRow.holds Try.pinned (OpenSpec.ofChange fnEarHearSpec)

/-- ITS FALSE NEIGHBOUR: 'it returns false'. Refute it at one input. -/
def fnEarHearWrong : ChangeSpec := { name := "fnEarHear", fn := fun _ => fun
  | [d] => { results := [.lit (.bool false)], args := [d] }
  | _ => none }
def FnEarHearWrongFalsely : Prop := fnEarHearRow.holds Try.pinned (OpenSpec.ofChange fnEarHearWrong)

/-- 'laws.FnEarRead': WHATEVER THE INPUT: true; the input reads as it did. -/
def fnEarReadSpec : ChangeSpec := { name := "fnEarRead", fn := fun _ => fun
  | [d] => { results := [.lit (.bool true)], args := [d] }
  | _ => none }
def fnEarReadRow : OpenClaim := { program := "ytikcpbgnmdhilaa", sum := "6085b1cb8442381df57ade44fff4492a0463f0b9fe8c87788f693f596b576223", func := "loop.example/netstack/laws.FnEarRead", spec := "fnEarRead", apart := false }
def FnEarReadSaid : Prop := fnEarReadRow.holds Try.pinned (OpenSpec.ofChange fnEarReadSpec)

/-- ITS FALSE NEIGHBOUR: 'it returns false'. Refute it at one input. -/
def fnEarReadWrong : ChangeSpec := { name := "fnEarRead", fn := fun _ => fun
  | [d] => { results := [.lit (.bool false)], args := [d] }
  | _ => none }
def FnEarReadWrongFalsely : Prop := fnEarReadRow.holds Try.pinned (OpenSpec.ofChange fnEarReadWrong)

/-- 'laws.FnEarRanges': WHATEVER THE INPUT: true; the input reads as it did. -/
def fnEarRangesSpec : ChangeSpec := { name := "fnEarRanges", fn := fun _ => fun
  | [d] => { results := [.lit (.bool true)], args := [d] }
  | _ => none }
def fnEarRangesRow : OpenClaim := { program := "ytikcpbgnmdhilaa", sum := "6085b1cb8442381df57ade44fff4492a0463f0b9fe8c87788f693f596b576223", func := "loop.example/netstack/laws.FnEarRanges", spec := "fnEarRanges", apart := false }
def FnEarRangesSaid : Prop := fnEarRangesRow.holds Try.pinned (OpenSpec.ofChange fnEarRangesSpec)

/-- ITS FALSE NEIGHBOUR: 'it returns false'. Refute it at one input. -/
def fnEarRangesWrong : ChangeSpec := { name := "fnEarRanges", fn := fun _ => fun
  | [d] => { results := [.lit (.bool false)], args := [d] }
  | _ => none }
def FnEarRangesWrongFalsely : Prop := fnEarRangesRow.holds Try.pinned (OpenSpec.ofChange fnEarRangesWrong)

/-- 'laws.FnListening': WHATEVER THE INPUT: true; the input reads as it did. -/
def fnListeningSpec : ChangeSpec := { name := "fnListening", fn := fun _ => fun
  | [d] => { results := [.lit (.bool true)], args := [d] }
  | _ => none }
def fnListeningRow : OpenClaim := { program := "ytikcpbgnmdhilaa", sum := "6085b1cb8442381df57ade44fff4492a0463f0b9fe8c87788f693f596b576223", func := "loop.example/netstack/laws.FnListening", spec := "fnListening", apart := false }
def FnListeningSaid : Prop := fnListeningRow.holds Try.pinned (OpenSpec.ofChange fnListeningSpec)

/-- ITS FALSE NEIGHBOUR: 'it returns false'. Refute it at one input. -/
def fnListeningWrong : ChangeSpec := { name := "fnListening", fn := fun _ => fun
  | [d] => { results := [.lit (.bool false)], args := [d] }
  | _ => none }
def FnListeningWrongFalsely : Prop := fnListeningRow.holds Try.pinned (OpenSpec.ofChange fnListeningWrong)

/- THE SECOND FORM. 'bulk': how many values and letters a reading holds, each counted each time it is reached (what is shared counts as often as it is met; a slice's spare places count too). A statement '..UptoSaid' is the law's where the arguments, and the package variables that the reading takes, are together of bulk at most 1048576: NARROWER than '..Said'. Prove '..Said' where nothing that the law and all that it calls make is longer than what came in: it says more and counts as full. Else prove '..UptoSaid'. A law counts once. -/
mutual
def uptoBulk {H : Type} : DataW H → Nat
  | .lit (.string bytes) => bytes.length + 1
  | .lit _ => 1
  | .nil => 1
  | .ptr d => uptoBulk d + 1
  | .slice elems spare => uptoBulkAll elems + uptoBulkAll spare + 1
  | .agg parts => uptoBulkAll parts + 1
  | .iface _ d => uptoBulk d + 1
  | .map entries => uptoBulkEntries entries + 1
  | .held _ => 1
def uptoBulkAll {H : Type} : List (DataW H) → Nat
  | [] => 0
  | d :: r => uptoBulk d + uptoBulkAll r
def uptoBulkEntries {H : Type} : List (Lit × DataW H) → Nat
  | [] => 0
  | x :: r => uptoBulkEntry x + uptoBulkEntries r
def uptoBulkEntry {H : Type} : Lit × DataW H → Nat
  | (.string bytes, d) => bytes.length + uptoBulk d + 1
  | (_, d) => uptoBulk d + 1
 end
def uptoSmall : (H : Type) → List (DataW H) → Bool := fun _ ds => decide (uptoBulkAll ds ≤ 1048576)
def OpenSpec.upto (s : _root_.Go.ChangeSpec) : _root_.Go.OpenSpec := { _root_.Go.OpenSpec.ofChange s with cond := some uptoSmall }

/-- 'laws.FnEarOk', WHERE WHAT IT READS IS OF BULK AT MOST 1048576: true; the input reads as it did. -/
def fnEarOkUptoRow : OpenClaim := { program := "ytikcpbgnmdhilaa", sum := "6085b1cb8442381df57ade44fff4492a0463f0b9fe8c87788f693f596b576223", func := "loop.example/netstack/laws.FnEarOk", spec := "fnEarOk", apart := false, narrowed := true }
def FnEarOkUptoSaid : Prop := fnEarOkUptoRow.holds Try.pinned (OpenSpec.upto fnEarOkSpec)

/-- 'laws.FnEarFree', WHERE WHAT IT READS IS OF BULK AT MOST 1048576: true; the input reads as it did. -/
def fnEarFreeUptoRow : OpenClaim := { program := "ytikcpbgnmdhilaa", sum := "6085b1cb8442381df57ade44fff4492a0463f0b9fe8c87788f693f596b576223", func := "loop.example/netstack/laws.FnEarFree", spec := "fnEarFree", apart := false, narrowed := true }
def FnEarFreeUptoSaid : Prop := fnEarFreeUptoRow.holds Try.pinned (OpenSpec.upto fnEarFreeSpec)

/-- 'laws.FnEarHear', WHERE WHAT IT READS IS OF BULK AT MOST 1048576: true; the input reads as it did. -/
def fnEarHearUptoRow : OpenClaim := { program := "ytikcpbgnmdhilaa", sum := "6085b1cb8442381df57ade44fff4492a0463f0b9fe8c87788f693f596b576223", func := "loop.example/netstack/laws.FnEarHear", spec := "fnEarHear", apart := false, narrowed := true }
def FnEarHearUptoSaid : Prop := fnEarHearUptoRow.holds Try.pinned (OpenSpec.upto fnEarHearSpec)

/-- 'laws.FnEarRead', WHERE WHAT IT READS IS OF BULK AT MOST 1048576: true; the input reads as it did. -/
def fnEarReadUptoRow : OpenClaim := { program := "ytikcpbgnmdhilaa", sum := "6085b1cb8442381df57ade44fff4492a0463f0b9fe8c87788f693f596b576223", func := "loop.example/netstack/laws.FnEarRead", spec := "fnEarRead", apart := false, narrowed := true }
def FnEarReadUptoSaid : Prop := fnEarReadUptoRow.holds Try.pinned (OpenSpec.upto fnEarReadSpec)

/-- 'laws.FnEarRanges', WHERE WHAT IT READS IS OF BULK AT MOST 1048576: true; the input reads as it did. -/
def fnEarRangesUptoRow : OpenClaim := { program := "ytikcpbgnmdhilaa", sum := "6085b1cb8442381df57ade44fff4492a0463f0b9fe8c87788f693f596b576223", func := "loop.example/netstack/laws.FnEarRanges", spec := "fnEarRanges", apart := false, narrowed := true }
def FnEarRangesUptoSaid : Prop := fnEarRangesUptoRow.holds Try.pinned (OpenSpec.upto fnEarRangesSpec)

/-- 'laws.FnListening', WHERE WHAT IT READS IS OF BULK AT MOST 1048576: true; the input reads as it did. -/
def fnListeningUptoRow : OpenClaim := { program := "ytikcpbgnmdhilaa", sum := "6085b1cb8442381df57ade44fff4492a0463f0b9fe8c87788f693f596b576223", func := "loop.example/netstack/laws.FnListening", spec := "fnListening", apart := false, narrowed := true }
def FnListeningUptoSaid : Prop := fnListeningUptoRow.holds Try.pinned (OpenSpec.upto fnListeningSpec)

end Rows
end Go.Proofs.Ytikcpbgnmdhilaa
