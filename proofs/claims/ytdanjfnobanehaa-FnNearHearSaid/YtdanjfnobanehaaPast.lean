import Derived.Test.YtdanjfnobanehaaMem
import Derived.Deep.QuietTactic
import Derived.BigQuiet
set_option linter.unusedVariables false
set_option linter.unusedSimpArgs false
namespace Go.Proofs.Ytdanjfnobanehaa
open Go.ChangeShapes Go.WideShapes Go.ChangeAt Go.RowKit
set_option linter.unusedSimpArgs false

/-- a world in which all blocks below B are as they are in w: the class of worlds for a region whose calls lay new blocks only -/
structure PastW (w : World) (B : Nat) where
  wd : World
  below : Below B w wd

instance {w : World} {B : Nat} : Nonempty (PastW w B) := ⟨⟨w, Below.refl _ _⟩⟩

theorem wp_region_past {P : Program} {id : Nat} {Q : Exit → Act → World → Prop} {a : Act} {w : World} {l : List Oper} (B : Nat) (hm : P.follows .mixedOrders = true) (hB : Region.lexB .any l.toArray = true)
    (h : wpQuiet P l.toArray (fun w' => ∃ p : PastW w B, w' = p.wd) (fun a' => ∀ w', (∃ p : PastW w B, w' = p.wd) → Q .normal a' w') l a) : (Code.region id l.toArray true).wp P Q a w :=
  wp_region_quiet (C := fun w' => ∃ p : PastW w B, w' = p.wd) hm hB ⟨⟨w.drew, (Below.refl _ _).drew⟩, rfl⟩ (by simpa using h)

section
variable {w : World} {B : Nat}
theorem PastW.cell {a : Addr} {v : Value} (hb : a.block < B) (h : w.cell? a = some v) (p : PastW w B) : p.wd.cell? a = some v := (p.below.cell hb).trans h
theorem PastW.size (p : PastW w B) : w.heap.size ≤ p.wd.heap.size := p.below.size
theorem PastW.rd {n b : Nat} {A : Option Addr} {xs : List Value} (h : Rd w b A n xs) (hb : b ≤ B) (p : PastW w B) : Rd p.wd b A n xs := h.below (p.below.mono hb)
/-- at a call: a callee that lays new blocks only -/
theorem past_call {P : Program} {f : FuncId} {args : Array Value} {v : Value} (hB : B ≤ w.heap.size) (p : PastW w B)
    (h : Calls P f args p.wd fun e w' => e = .returned v ∧ Below p.wd.heap.size p.wd w') : Calls P f args p.wd fun e w'' => e = .returned v ∧ ∃ q : PastW w B, w'' = q.wd :=
  h.mono fun _ w' ⟨he, hb⟩ => ⟨he, ⟨w', p.below.trans (hb.mono (Nat.le_trans hB p.size))⟩, rfl⟩
/-- a callee that leaves the world alone -/
theorem past_same {P : Program} {f : FuncId} {args : Array Value} {v : Value} (p : PastW w B)
    (h : Calls P f args p.wd fun e w' => e = .returned v ∧ p.wd = w') : Calls P f args p.wd fun e w'' => e = .returned v ∧ ∃ q : PastW w B, w'' = q.wd :=
  h.mono fun _ w' ⟨he, hb⟩ => ⟨he, p, hb.symm⟩
end
end Go.Proofs.Ytdanjfnobanehaa
