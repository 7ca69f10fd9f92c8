import Derived.Test.YtkfjaeoehhakpaaC1a
import Derived.Test.YtkfjaeoehhakpaaMem
import Derived.Outline
import Derived.Laws.BytesArg
import Derived.Laws.IdiomStrings
import Derived.Test.YtkfjaeoehhakpaaNum
import Derived.Deep.RegionLaw
import Derived.Deep.RegionWith
import Derived.Deep.RegionHeld3
import Derived.Deep.DrawnRows
import Derived.Deep.QuietTactic
import Derived.BigQuiet
namespace Go.Proofs.Ytkfjaeoehhakpaa
open Go.ChangeShapes Go.WideShapes Go.ChangeAt Go.RowKit
end Go.Proofs.Ytkfjaeoehhakpaa
namespace Go.Proofs.Ytkfjaeoehhakpaa
open Go.ChangeShapes Go.WideShapes Go.ChangeAt Go.RowKit
end Go.Proofs.Ytkfjaeoehhakpaa
namespace Go.Proofs.Ytkfjaeoehhakpaa
open Go.ChangeShapes Go.WideShapes Go.ChangeAt Go.RowKit
def frOk (t f k : Int) (n : Nat) : Bool := inB t 0 255 && inB f 0 254 && inB k 0 255 && decide (n ≤ 64)
end Go.Proofs.Ytkfjaeoehhakpaa
namespace Go.Proofs.Ytkfjaeoehhakpaa
def u8 (z : Int) : UInt8 := UInt8.ofNat z.toNat
def frHead (t f k : Int) (xs : List UInt8) : List UInt8 := [u8 t, u8 f, u8 k, u8 (xs.length : Nat)] ++ xs
end Go.Proofs.Ytkfjaeoehhakpaa
namespace Go.Proofs.Ytkfjaeoehhakpaa
open Go.ChangeShapes Go.WideShapes Go.ChangeAt Go.RowKit
def frBytes (t f k : Int) (xs : List UInt8) : List UInt8 := if frOk t f k xs.length then frHead t f k xs ++ bytesOf (sumOf (frHead t f k xs)) 2 else []
theorem RetB.nil {B : Nat} {w w' : World} (h : Below B w w') (c : Nat) (hc : c = 0) : RetB B [] w (.returned (.slice none 0 c)) w' := by
  subst hc
  exact ⟨none, 0, 0, rfl, World.ownsRow_nil _ _ _ _, h⟩
end Go.Proofs.Ytkfjaeoehhakpaa
namespace Go.Proofs.Ytkfjaeoehhakpaa
def frT0 (xs : List UInt8) : Int := ((xs.getD 0 0).toNat : Nat)
def frF0 (xs : List UInt8) : Int := ((xs.getD 1 0).toNat : Nat)
def frK0 (xs : List UInt8) : Int := ((xs.getD 2 0).toNat : Nat)
def frD0 (xs : List UInt8) : List UInt8 := (xs.drop 4).take (xs.length - 6)
def frFine (xs : List UInt8) : Bool := decide (6 ≤ xs.length) && (frBytes (frT0 xs) (frF0 xs) (frK0 xs) (frD0 xs) == xs)
end Go.Proofs.Ytkfjaeoehhakpaa
namespace Go.Proofs.Ytkfjaeoehhakpaa
open Go.ChangeShapes Go.WideShapes Go.ChangeAt Go.RowKit
def RetF (B : Nat) (t f k : Int) (d : List UInt8) (ok : Bool) (w : World) (e : Ending) (w' : World) : Prop :=
  ∃ A n c, e = .returned (.tuple #[.agg #[.int .i64 t, .int .i64 f, .int .i64 k, .slice A n c], .bool ok]) ∧ w'.ownsRow B 5 1 (.slice A n c) n (bv d) ∧ Below B w w'
def RetFr (xs : List UInt8) (B : Nat) (w : World) (e : Ending) (w' : World) : Prop :=
  (frFine xs = true ∧ RetF B (frT0 xs) (frF0 xs) (frK0 xs) (frD0 xs) true w e w') ∨ (frFine xs = false ∧ RetF B 0 0 0 [] false w e w')
theorem RetFr.no {xs : List UInt8} {B : Nat} {w w' : World} (h : frFine xs = false) (hb : Below B w w') :
    RetFr xs B w (.returned (.tuple #[.agg #[.int .i64 0, .int .i64 0, .int .i64 0, .slice none 0 0], .bool false])) w' :=
  .inr ⟨h, none, 0, 0, rfl, World.ownsRow_nil _ _ _ _, hb⟩
end Go.Proofs.Ytkfjaeoehhakpaa
namespace Go.Proofs.Ytkfjaeoehhakpaa
open Go.ChangeShapes Go.WideShapes Go.ChangeAt Go.RowKit
theorem RetB.empty {B : Nat} {w w' : World} (h : Below B w w') (hB : B ≤ w'.heap.size) : RetB B [] w (.returned (.slice (some ⟨w'.heap.size, 0, none⟩) 0 0)) (w'.alloc (.cells #[] 5)) :=
  ⟨_, 0, 0, rfl, own_empty w' B hB, h.alloc hB _⟩
end Go.Proofs.Ytkfjaeoehhakpaa
namespace Go.Proofs.Ytkfjaeoehhakpaa
open Go.ChangeShapes Go.WideShapes Go.ChangeAt Go.RowKit
end Go.Proofs.Ytkfjaeoehhakpaa
set_option linter.unusedVariables false
set_option linter.unusedSimpArgs false
namespace Go.Proofs.Ytkfjaeoehhakpaa
open Go.ChangeShapes Go.WideShapes Go.ChangeAt Go.RowKit
set_option linter.unusedSimpArgs false
structure PastW (w : World) (B : Nat) where
  wd : World
  below : Below B w wd
instance {w : World} {B : Nat} : Nonempty (PastW w B) := ⟨⟨w, Below.refl _ _⟩⟩
section
variable {w : World} {B : Nat}
theorem PastW.cell {a : Addr} {v : Value} (hb : a.block < B) (h : w.cell? a = some v) (p : PastW w B) : p.wd.cell? a = some v := (p.below.cell hb).trans h
theorem PastW.size (p : PastW w B) : w.heap.size ≤ p.wd.heap.size := p.below.size
theorem PastW.rd {n b : Nat} {A : Option Addr} {xs : List Value} (h : Rd w b A n xs) (hb : b ≤ B) (p : PastW w B) : Rd p.wd b A n xs := h.below (p.below.mono hb)
end
end Go.Proofs.Ytkfjaeoehhakpaa
namespace Go.Proofs.Ytkfjaeoehhakpaa
open Go.ChangeShapes Go.WideShapes Go.ChangeAt Go.RowKit
end Go.Proofs.Ytkfjaeoehhakpaa
