import Derived.Test.YtegffkmakkccaaaVf
import Derived.Test.YtegffkmakkccaaaVb
import Derived.Test.YtegffkmakkccaaaNum
namespace Go.Proofs.Ytegffkmakkccaaa
open Go.RowKit
set_option linter.unusedSimpArgs false
structure Pk where
  f : Int
  t : Int
  p : Int
  h : Int
  i : Int
  a : Int
  m : Bool
  u : Bool
  d : List UInt8
def dB : D → Bool
  | .v (.bool b) => b
  | _ => false
def pRow (x : Pk) : List D := [.v (.int .i64 x.f), .v (.int .i64 x.t), .v (.int .i64 x.p), .v (.int .i64 x.h), .v (.int .i64 x.i), .v (.int .i64 x.a), .v (.bool x.m), .v (.bool x.u), .l 1 (rowsOfBytes x.d)]
def pRows (ps : List Pk) : List (List D) := ps.map pRow
def pOf (r : List D) : Pk := ⟨(r.getD 0 (.v undef)).toI, (r.getD 1 (.v undef)).toI, (r.getD 2 (.v undef)).toI, (r.getD 3 (.v undef)).toI, (r.getD 4 (.v undef)).toI, (r.getD 5 (.v undef)).toI, dB (r.getD 6 (.v undef)), dB (r.getD 7 (.v undef)), bytesOfRows (r.getD 8 (.v undef)).toL⟩
def psOf (rows : List (List D)) : List Pk := rows.map pOf
theorem psOf_rows (ps : List Pk) : psOf (pRows ps) = ps := by
  unfold psOf pRows
  rw [List.map_map]
  have : pOf ∘ pRow = id := by
    funext x
    show (⟨x.f, x.t, x.p, x.h, x.i, x.a, x.m, x.u, bytesOfRows (rowsOfBytes x.d)⟩ : Pk) = x
    rw [bytesOf_rows]
  rw [this, List.map_id]
theorem pRows_len (ps : List Pk) : (pRows ps).length = ps.length := by simp [pRows]
theorem pRows_w (ps : List Pk) : ∀ r ∈ pRows ps, r.length = 9 := fun r hr => by
  obtain ⟨e, _, rfl⟩ := List.mem_map.1 hr
  rfl
theorem pRows_get (ps : List Pk) (k : Nat) (h : k < ps.length) : (pRows ps).getD k [] = pRow ps[k] := by
  unfold pRows
  rw [List.getD_eq_getElem?_getD, List.getElem?_map, List.getElem?_eq_getElem h]; rfl
theorem pRows_app (a b : List Pk) : pRows a ++ pRows b = pRows (a ++ b) := by simp [pRows]
def Pk.ok (x : Pk) : Bool := pkB x.f x.t x.p x.h x.i x.a x.m x.u x.d.length
end Go.Proofs.Ytegffkmakkccaaa
