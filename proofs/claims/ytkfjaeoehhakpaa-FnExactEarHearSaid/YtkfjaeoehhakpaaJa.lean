import Derived.Test.YtkfjaeoehhakpaaLa
set_option linter.unusedVariables false
set_option linter.unusedSimpArgs false
namespace Go.Proofs.Ytkfjaeoehhakpaa
open Go.RowKit
structure Rg where
  f : Int
  t : Int
def rgRow (e : Rg) : List D := [.v (.int .i64 e.f), .v (.int .i64 e.t)]
def rgRows (l : List Rg) : List (List D) := l.map rgRow
def rgOf (r : List D) : Rg := ⟨(r.getD 0 (.v undef)).toI, (r.getD 1 (.v undef)).toI⟩
def rgsOf (rows : List (List D)) : List Rg := rows.map rgOf
theorem rgsOf_rows (l : List Rg) : rgsOf (rgRows l) = l := by
  simp only [rgsOf, rgRows, List.map_map]
  conv => rhs; rw [← List.map_id l]
  exact List.map_congr_left fun e _ => rfl
theorem rgRows_len (l : List Rg) : (rgRows l).length = l.length := by simp [rgRows]
theorem rgRows_w (l : List Rg) : ∀ r ∈ rgRows l, r.length = 2 := fun r hr => by
  obtain ⟨e, _, rfl⟩ := List.mem_map.1 hr
  rfl
theorem rgRows_get (l : List Rg) (k : Nat) (h : k < l.length) : (rgRows l).getD k [] = [.v (.int .i64 l[k].f), .v (.int .i64 l[k].t)] := by
  simp [rgRows, List.getD, h, rgRow]
theorem rgRows_flat (l : List Rg) : ∀ r ∈ rgRows l, ∀ d ∈ r, ∃ x, d = .v x := fun r hr d hd => by
  obtain ⟨e, _, rfl⟩ := List.mem_map.1 hr
  simp only [rgRow, List.mem_cons, List.not_mem_nil, or_false] at hd
  rcases hd with rfl | rfl <;> exact ⟨_, rfl⟩
theorem rgRows_app (a b : List Rg) : rgRows a ++ rgRows b = rgRows (a ++ b) := by simp [rgRows]
structure Sg where
  f : Int
  t : Int
  sq : Int
  ak : Int
  rm : Int
  fi : Bool
  he : Bool
  la : Bool
  re : Bool
  rs : List Rg
  d : List UInt8
theorem toU8_back (x : UInt8) : toU8 ((x.toNat : Nat) : Int) = x := by
  apply UInt8.toNat_inj.1
  have := toU8_val' (v := (x.toNat : Int)) (by omega) (by have := x.toNat_lt; omega)
  omega
end Go.Proofs.Ytkfjaeoehhakpaa
