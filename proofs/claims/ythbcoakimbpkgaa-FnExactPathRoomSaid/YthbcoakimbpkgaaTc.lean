import Derived.Test.YthbcoakimbpkgaaTa
import Derived.Test.YthbcoakimbpkgaaSc
import Derived.Test.YthbcoakimbpkgaaC1a
import Derived.Test.YthbcoakimbpkgaaC2f
import Derived.Test.YthbcoakimbpkgaaLw
set_option linter.unusedVariables false
set_option linter.unusedSimpArgs false
namespace Go.Proofs.Ythbcoakimbpkgaa
open Go.RowKit
set_option linter.unusedSimpArgs false
theorem arel_nil {w : World} {Z : Nat → Prop} {L : Nat → Blk} {s : Nat → Value} : ARel w Z L s [] [] := ⟨rfl, fun i x y hx => by simp at hx⟩
theorem arel_cons {w : World} {Z : Nat → Prop} {L : Nat → Blk} {s : Nat → Value} {a : AV} {x : Value} {xa : List AV} {xs : List Value} (h : AVR w Z L s a x) (k : ARel w Z L s xa xs) : ARel w Z L s (a :: xa) (x :: xs) :=
  ⟨by simp [k.1], fun i y z hy hz => by
    cases i with
    | zero => simp at hy hz; subst hy; subst hz; exact h
    | succ i => exact k.2 i y z (by simpa using hy) (by simpa using hz)⟩
theorem avr_agg {w : World} {Z : Nat → Prop} {L : Nat → Blk} {s : Nat → Value} {xa : List AV} {xs : List Value} (k : ARel w Z L s xa xs) : AVR w Z L s (.agg xa) (.agg xs.toArray) := .agg _ _ k.1 k.2
end Go.Proofs.Ythbcoakimbpkgaa
