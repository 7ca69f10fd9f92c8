/-
  No cell of these rows narrows 'for every input' (looked for: loops, veiled, ifaces, maps, wideKeys, modest, calm, conditions, laid).
  DERIVED. THE GIVEN ROWS OF THIS SEAT. 8 by the template 'for every input the law returns true; each argument reads behind the call as it read before'; 0 by the template 'total and deterministic' (their statements: YtdeldmagmljacaaTotals.lean).
  GIVEN WITH THE SEED: the statements are not yours to turn. If you find one false, say at which input.
  Laid BY PROGRAM, IN A SANDBOX (cutbox-rows.mjs): the forced cells as the released guide's own fill.sh prints them over the translation beb6d7df03e18a38… (all of the seat's roots in one cut). By AI agents, Wed Nov 11 2026. No macro, syntax, notation, axiom, sorry.
-/
import Derived.Test.YtdeldmagmljacaaChecked
import GoSem.Claim
import GoSem.ClaimJoined
import GoSem.ClaimMapViews
import Derived.JoinedTies
import Derived.KernelRfl
namespace Go.Proofs.Ytdeldmagmljacaa
/- THE CELL 'sum', in the pinned program and in every row, IS THE sha256 OF THE DUMP (.gsa) THAT YtdeldmagmljacaaProg.lean LOADS. Nothing in Lean hashes anything: it is a label: what it is worth is what the hold of that sum in a sandbox is worth. -/
noncomputable def Try.pinned : Pinned := { name := "ytdeldmagmljacaa", sum := "beb6d7df03e18a38733f8f158b670ad4579b93e5a4e0f712a46f3cea5d1c6621", checked := Try.checked }
namespace Rows
def none {H : Type} : Left H := { results := [], args := [] }

/-- 'laws.FnPacketCut': WHATEVER THE INPUT: true; the input reads as it did. -/
def fnPacketCutSpec : ChangeSpec := { name := "fnPacketCut", fn := fun _ => fun
  | [d] => { results := [.lit (.bool true)], args := [d] }
  | _ => none }
def fnPacketCutRow : OpenClaim := { program := "ytdeldmagmljacaa", sum := "beb6d7df03e18a38733f8f158b670ad4579b93e5a4e0f712a46f3cea5d1c6621", func := "loop.example/netstack/laws.FnPacketCut", spec := "fnPacketCut", apart := false }
def FnPacketCutSaid : Prop := fnPacketCutRow.holds Try.pinned (OpenSpec.ofChange fnPacketCutSpec)

/-- ITS FALSE NEIGHBOUR: 'it returns false'. Refute it at one input. -/
def fnPacketCutWrong : ChangeSpec := { name := "fnPacketCut", fn := fun _ => fun
  | [d] => { results := [.lit (.bool false)], args := [d] }
  | _ => none }
def FnPacketCutWrongFalsely : Prop := fnPacketCutRow.holds Try.pinned (OpenSpec.ofChange fnPacketCutWrong)

/-- 'laws.FnPartOk': WHATEVER THE INPUT: true; the input reads as it did. -/
def fnPartOkSpec : ChangeSpec := { name := "fnPartOk", fn := fun _ => fun
  | [d] => { results := [.lit (.bool true)], args := [d] }
  | _ => none }
def fnPartOkRow : OpenClaim := { program := "ytdeldmagmljacaa", sum := "beb6d7df03e18a38733f8f158b670ad4579b93e5a4e0f712a46f3cea5d1c6621", func := "loop.example/netstack/laws.FnPartOk", spec := "fnPartOk", apart := false }
def FnPartOkSaid : Prop := fnPartOkRow.holds Try.pinned (OpenSpec.ofChange fnPartOkSpec)

/-- ITS FALSE NEIGHBOUR: 'it returns false'. Refute it at one input. -/
def fnPartOkWrong : ChangeSpec := { name := "fnPartOk", fn := fun _ => fun
  | [d] => { results := [.lit (.bool false)], args := [d] }
  | _ => none }
def FnPartOkWrongFalsely : Prop := fnPartOkRow.holds Try.pinned (OpenSpec.ofChange fnPartOkWrong)

/-- 'laws.FnPartWhole': WHATEVER THE INPUT: true; the input reads as it did. -/
def fnPartWholeSpec : ChangeSpec := { name := "fnPartWhole", fn := fun _ => fun
  | [d] => { results := [.lit (.bool true)], args := [d] }
  | _ => none }
def fnPartWholeRow : OpenClaim := { program := "ytdeldmagmljacaa", sum := "beb6d7df03e18a38733f8f158b670ad4579b93e5a4e0f712a46f3cea5d1c6621", func := "loop.example/netstack/laws.FnPartWhole", spec := "fnPartWhole", apart := false }
def FnPartWholeSaid : Prop := fnPartWholeRow.holds Try.pinned (OpenSpec.ofChange fnPartWholeSpec)

/-- ITS FALSE NEIGHBOUR: 'it returns false'. Refute it at one input. -/
def fnPartWholeWrong : ChangeSpec := { name := "fnPartWhole", fn := fun _ => fun
  | [d] => { results := [.lit (.bool false)], args := [d] }
  | _ => none }
def FnPartWholeWrongFalsely : Prop := fnPartWholeRow.holds Try.pinned (OpenSpec.ofChange fnPartWholeWrong)

/-- 'laws.FnPartPut': WHATEVER THE INPUT: true; the input reads as it did. -/
def fnPartPutSpec : ChangeSpec := { name := "fnPartPut", fn := fun _ => fun
  | [d] => { results := [.lit (.bool true)], args := [d] }
  | _ => none }
def fnPartPutRow : OpenClaim := { program := "ytdeldmagmljacaa", sum := "beb6d7df03e18a38733f8f158b670ad4579b93e5a4e0f712a46f3cea5d1c6621", func := "loop.example/netstack/laws.FnPartPut", spec := "fnPartPut", apart := false }
def FnPartPutSaid : Prop := fnPartPutRow.holds Try.pinned (OpenSpec.ofChange fnPartPutSpec)

/-- ITS FALSE NEIGHBOUR: 'it returns false'. Refute it at one input. -/
def fnPartPutWrong : ChangeSpec := { name := "fnPartPut", fn := fun _ => fun
  | [d] => { results := [.lit (.bool false)], args := [d] }
  | _ => none }
def FnPartPutWrongFalsely : Prop := fnPartPutRow.holds Try.pinned (OpenSpec.ofChange fnPartPutWrong)

/-- 'laws.FnPartsOk': WHATEVER THE INPUT: true; the input reads as it did. -/
def fnPartsOkSpec : ChangeSpec := { name := "fnPartsOk", fn := fun _ => fun
  | [d] => { results := [.lit (.bool true)], args := [d] }
  | _ => none }
def fnPartsOkRow : OpenClaim := { program := "ytdeldmagmljacaa", sum := "beb6d7df03e18a38733f8f158b670ad4579b93e5a4e0f712a46f3cea5d1c6621", func := "loop.example/netstack/laws.FnPartsOk", spec := "fnPartsOk", apart := false }
def FnPartsOkSaid : Prop := fnPartsOkRow.holds Try.pinned (OpenSpec.ofChange fnPartsOkSpec)

/-- ITS FALSE NEIGHBOUR: 'it returns false'. Refute it at one input. -/
def fnPartsOkWrong : ChangeSpec := { name := "fnPartsOk", fn := fun _ => fun
  | [d] => { results := [.lit (.bool false)], args := [d] }
  | _ => none }
def FnPartsOkWrongFalsely : Prop := fnPartsOkRow.holds Try.pinned (OpenSpec.ofChange fnPartsOkWrong)

/-- 'laws.FnPartsHear': WHATEVER THE INPUT: true; the input reads as it did. -/
def fnPartsHearSpec : ChangeSpec := { name := "fnPartsHear", fn := fun _ => fun
  | [d] => { results := [.lit (.bool true)], args := [d] }
  | _ => none }
def fnPartsHearRow : OpenClaim := { program := "ytdeldmagmljacaa", sum := "beb6d7df03e18a38733f8f158b670ad4579b93e5a4e0f712a46f3cea5d1c6621", func := "loop.example/netstack/laws.FnPartsHear", spec := "fnPartsHear", apart := false }
def FnPartsHearSaid : Prop := fnPartsHearRow.holds Try.pinned (OpenSpec.ofChange fnPartsHearSpec)

/-- ITS FALSE NEIGHBOUR: 'it returns false'. Refute it at one input. -/
def fnPartsHearWrong : ChangeSpec := { name := "fnPartsHear", fn := fun _ => fun
  | [d] => { results := [.lit (.bool false)], args := [d] }
  | _ => none }
def FnPartsHearWrongFalsely : Prop := fnPartsHearRow.holds Try.pinned (OpenSpec.ofChange fnPartsHearWrong)

/-- 'laws.FnPartsShuffled': WHATEVER THE INPUT: true; the input reads as it did. -/
def fnPartsShuffledSpec : ChangeSpec := { name := "fnPartsShuffled", fn := fun _ => fun
  | [d] => { results := [.lit (.bool true)], args := [d] }
  | _ => none }
def fnPartsShuffledRow : OpenClaim := { program := "ytdeldmagmljacaa", sum := "beb6d7df03e18a38733f8f158b670ad4579b93e5a4e0f712a46f3cea5d1c6621", func := "loop.example/netstack/laws.FnPartsShuffled", spec := "fnPartsShuffled", apart := false }
def FnPartsShuffledSaid : Prop := fnPartsShuffledRow.holds Try.pinned (OpenSpec.ofChange fnPartsShuffledSpec)

/-- ITS FALSE NEIGHBOUR: 'it returns false'. Refute it at one input. -/
def fnPartsShuffledWrong : ChangeSpec := { name := "fnPartsShuffled", fn := fun _ => fun
  | [d] => { results := [.lit (.bool false)], args := [d] }
  | _ => none }
def FnPartsShuffledWrongFalsely : Prop := fnPartsShuffledRow.holds Try.pinned (OpenSpec.ofChange fnPartsShuffledWrong)

/-- 'laws.FnWholePieces': WHATEVER THE INPUT: true; the input reads as it did. -/
def fnWholePiecesSpec : ChangeSpec := { name := "fnWholePieces", fn := fun _ => fun
  | [d] => { results := [.lit (.bool true)], args := [d] }
  | _ => none }
def fnWholePiecesRow : OpenClaim := { program := "ytdeldmagmljacaa", sum := "beb6d7df03e18a38733f8f158b670ad4579b93e5a4e0f712a46f3cea5d1c6621", func := "loop.example/netstack/laws.FnWholePieces", spec := "fnWholePieces", apart := false }
def FnWholePiecesSaid : Prop := fnWholePiecesRow.holds Try.pinned (OpenSpec.ofChange fnWholePiecesSpec)

/-- ITS FALSE NEIGHBOUR: 'it returns false'. Refute it at one input. -/
def fnWholePiecesWrong : ChangeSpec := { name := "fnWholePieces", fn := fun _ => fun
  | [d] => { results := [.lit (.bool false)], args := [d] }
  | _ => none }
def FnWholePiecesWrongFalsely : Prop := fnWholePiecesRow.holds Try.pinned (OpenSpec.ofChange fnWholePiecesWrong)

/- THE SECOND FORM. 'bulk': how many values and letters a reading holds, each counted each time it is reached (what is shared counts as often as it is met; a slice's spare places count too). A statement '..UptoSaid' is the law's where the arguments, and the package variables that the reading takes, are together of bulk at most 1048576: NARROWER than '..Said'. Prove '..Said' where nothing that the law and all that it calls make is longer than what came in: it says more and counts as full. Else prove '..UptoSaid'. A law counts once. -/
mutual
def uptoBulk {H : Type} : DataW H → Nat
  | .lit (.string bytes) => bytes.length + 1
  | .lit _ => 1
  | .nil => 1
  | .ptr d => uptoBulk d + 1
  | .slice elems spare => uptoBulkAll elems + uptoBulkAll spare + 1
  | .agg parts => uptoBulkAll parts + 1
  | .iface _ d => uptoBulk d + 1
  | .map entries => uptoBulkEntries entries + 1
  | .held _ => 1
def uptoBulkAll {H : Type} : List (DataW H) → Nat
  | [] => 0
  | d :: r => uptoBulk d + uptoBulkAll r
def uptoBulkEntries {H : Type} : List (Lit × DataW H) → Nat
  | [] => 0
  | x :: r => uptoBulkEntry x + uptoBulkEntries r
def uptoBulkEntry {H : Type} : Lit × DataW H → Nat
  | (.string bytes, d) => bytes.length + uptoBulk d + 1
  | (_, d) => uptoBulk d + 1
 end
def uptoSmall : (H : Type) → List (DataW H) → Bool := fun _ ds => decide (uptoBulkAll ds ≤ 1048576)
def OpenSpec.upto (s : _root_.Go.ChangeSpec) : _root_.Go.OpenSpec := { _root_.Go.OpenSpec.ofChange s with cond := some uptoSmall }

/-- 'laws.FnPacketCut', WHERE WHAT IT READS IS OF BULK AT MOST 1048576: true; the input reads as it did. -/
def fnPacketCutUptoRow : OpenClaim := { program := "ytdeldmagmljacaa", sum := "beb6d7df03e18a38733f8f158b670ad4579b93e5a4e0f712a46f3cea5d1c6621", func := "loop.example/netstack/laws.FnPacketCut", spec := "fnPacketCut", apart := false, narrowed := true }
def FnPacketCutUptoSaid : Prop := fnPacketCutUptoRow.holds Try.pinned (OpenSpec.upto fnPacketCutSpec)

/-- 'laws.FnPartOk', WHERE WHAT IT READS IS OF BULK AT MOST 1048576: true; the input reads as it did. -/
def fnPartOkUptoRow : OpenClaim := { program := "ytdeldmagmljacaa", sum := "beb6d7df03e18a38733f8f158b670ad4579b93e5a4e0f712a46f3cea5d1c6621", func := "loop.example/netstack/laws.FnPartOk", spec := "fnPartOk", apart := false, narrowed := true }
def FnPartOkUptoSaid : Prop := fnPartOkUptoRow.holds Try.pinned (OpenSpec.upto fnPartOkSpec)

/-- 'laws.FnPartWhole', WHERE WHAT IT READS IS OF BULK AT MOST 1048576: true; the input reads as it did. -/
def fnPartWholeUptoRow : OpenClaim := { program := "ytdeldmagmljacaa", sum := "beb6d7df03e18a38733f8f158b670ad4579b93e5a4e0f712a46f3cea5d1c6621", func := "loop.example/netstack/laws.FnPartWhole", spec := "fnPartWhole", apart := false, narrowed := true }
def FnPartWholeUptoSaid : Prop := fnPartWholeUptoRow.holds Try.pinned (OpenSpec.upto fnPartWholeSpec)

/-- 'laws.FnPartPut', WHERE WHAT IT READS IS OF BULK AT MOST 1048576: true; the input reads as it did. -/
def fnPartPutUptoRow : OpenClaim := { program := "ytdeldmagmljacaa", sum := "beb6d7df03e18a38733f8f158b670ad4579b93e5a4e0f712a46f3cea5d1c6621", func := "loop.example/netstack/laws.FnPartPut", spec := "fnPartPut", apart := false, narrowed := true }
def FnPartPutUptoSaid : Prop := fnPartPutUptoRow.holds Try.pinned (OpenSpec.upto fnPartPutSpec)

/-- 'laws.FnPartsOk', WHERE WHAT IT READS IS OF BULK AT MOST 1048576: true; the input reads as it did. -/
def fnPartsOkUptoRow : OpenClaim := { program := "ytdeldmagmljacaa", sum := "beb6d7df03e18a38733f8f158b670ad4579b93e5a4e0f712a46f3cea5d1c6621", func := "loop.example/netstack/laws.FnPartsOk", spec := "fnPartsOk", apart := false, narrowed := true }
def FnPartsOkUptoSaid : Prop := fnPartsOkUptoRow.holds Try.pinned (OpenSpec.upto fnPartsOkSpec)

/-- 'laws.FnPartsHear', WHERE WHAT IT READS IS OF BULK AT MOST 1048576: true; the input reads as it did. -/
def fnPartsHearUptoRow : OpenClaim := { program := "ytdeldmagmljacaa", sum := "beb6d7df03e18a38733f8f158b670ad4579b93e5a4e0f712a46f3cea5d1c6621", func := "loop.example/netstack/laws.FnPartsHear", spec := "fnPartsHear", apart := false, narrowed := true }
def FnPartsHearUptoSaid : Prop := fnPartsHearUptoRow.holds Try.pinned (OpenSpec.upto fnPartsHearSpec)

/-- 'laws.FnPartsShuffled', WHERE WHAT IT READS IS OF BULK AT MOST 1048576: true; the input reads as it did. -/
def fnPartsShuffledUptoRow : OpenClaim := { program := "ytdeldmagmljacaa", sum := "beb6d7df03e18a38733f8f158b670ad4579b93e5a4e0f712a46f3cea5d1c6621", func := "loop.example/netstack/laws.FnPartsShuffled", spec := "fnPartsShuffled", apart := false, narrowed := true }
def FnPartsShuffledUptoSaid : Prop := fnPartsShuffledUptoRow.holds Try.pinned (OpenSpec.upto fnPartsShuffledSpec)

/-- 'laws.FnWholePieces', WHERE WHAT IT READS IS OF BULK AT MOST 1048576: true; the input reads as it did. -/
def fnWholePiecesUptoRow : OpenClaim := { program := "ytdeldmagmljacaa", sum := "beb6d7df03e18a38733f8f158b670ad4579b93e5a4e0f712a46f3cea5d1c6621", func := "loop.example/netstack/laws.FnWholePieces", spec := "fnWholePieces", apart := false, narrowed := true }
def FnWholePiecesUptoSaid : Prop := fnWholePiecesUptoRow.holds Try.pinned (OpenSpec.upto fnWholePiecesSpec)

end Rows
end Go.Proofs.Ytdeldmagmljacaa
