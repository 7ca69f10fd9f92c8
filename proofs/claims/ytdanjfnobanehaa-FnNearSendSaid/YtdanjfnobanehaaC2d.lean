import Derived.Test.YtdanjfnobanehaaFr2
import Derived.Test.YtdanjfnobanehaaSame
import Derived.Deep.RegionLaw
import Derived.Deep.RegionWith
import Derived.Deep.RegionHeld3
import Derived.Deep.DrawnRows
namespace Go.Proofs.Ytdanjfnobanehaa
open Go.ChangeShapes Go.WideShapes Go.ChangeAt Go.RowKit

/-- a frame, or none, in new memory -/
def RetF (B : Nat) (t f k : Int) (d : List UInt8) (ok : Bool) (w : World) (e : Ending) (w' : World) : Prop :=
  ∃ A n c, e = .returned (.tuple #[.agg #[.int .i64 t, .int .i64 f, .int .i64 k, .slice A n c], .bool ok]) ∧ w'.ownsRow B 5 1 (.slice A n c) n (bv d) ∧ Below B w w'
def RetFr (xs : List UInt8) (B : Nat) (w : World) (e : Ending) (w' : World) : Prop :=
  (frFine xs = true ∧ RetF B (frT0 xs) (frF0 xs) (frK0 xs) (frD0 xs) true w e w') ∨ (frFine xs = false ∧ RetF B 0 0 0 [] false w e w')
theorem RetFr.no {xs : List UInt8} {B : Nat} {w w' : World} (h : frFine xs = false) (hb : Below B w w') :
    RetFr xs B w (.returned (.tuple #[.agg #[.int .i64 0, .int .i64 0, .int .i64 0, .slice none 0 0], .bool false])) w' :=
  .inr ⟨h, none, 0, 0, rfl, World.ownsRow_nil _ _ _ _, hb⟩

end Go.Proofs.Ytdanjfnobanehaa
