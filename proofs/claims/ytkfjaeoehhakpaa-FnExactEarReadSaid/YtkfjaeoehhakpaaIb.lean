import Derived.Test.YtkfjaeoehhakpaaIa
import Derived.Test.YtkfjaeoehhakpaaTn
import Derived.Test.YtkfjaeoehhakpaaTq
import Derived.Test.YtkfjaeoehhakpaaR7
set_option linter.unusedVariables false
set_option linter.unusedSimpArgs false
namespace Go.Proofs.Ytkfjaeoehhakpaa
open Go.RowKit
set_option linter.unusedSimpArgs false
def erRow (e : Er) : List D := [.v (.int .i64 e.p), .v (.int .u8 (e.b.toNat : Int))]
def erRows (l : List Er) : List (List D) := l.map erRow
def erOf (r : List D) : Er := ⟨(r.getD 0 (.v undef)).toI, toU8 (r.getD 1 (.v undef)).toI⟩
def ersOf (rows : List (List D)) : List Er := rows.map erOf
theorem erRow_of (e : Er) : erOf (erRow e) = e := by
  have h : ∀ x : UInt8, toU8 ((x.toNat : Nat) : Int) = x := fun x => by
    apply UInt8.toNat_inj.1
    have h1 := toU8_val ((x.toNat : Nat) : Int)
    rw [IntKind.wrap_u8] at h1
    have := x.toNat_lt
    omega
  cases e
  simp [erOf, erRow, D.toI, h]
theorem ersOf_rows (l : List Er) : ersOf (erRows l) = l := by
  simp only [ersOf, erRows, List.map_map]
  conv => rhs; rw [← List.map_id l]
  exact List.map_congr_left fun e _ => by cases e; exact erRow_of _
theorem erRows_len (l : List Er) : (erRows l).length = l.length := by simp [erRows]
theorem erRows_w (l : List Er) : ∀ r ∈ erRows l, r.length = 2 := fun r hr => by
  obtain ⟨e, _, rfl⟩ := List.mem_map.1 hr
  rfl
theorem erRows_get (l : List Er) (k : Nat) (h : k < l.length) : (erRows l).getD k [] = [.v (.int .i64 l[k].p), .v (.int .u8 (l[k].b.toNat : Int))] := by
  simp [erRows, List.getD, h, erRow]
theorem erRows_flat (l : List Er) : ∀ r ∈ erRows l, ∀ d ∈ r, ∃ x, d = .v x := fun r hr d hd => by
  obtain ⟨e, _, rfl⟩ := List.mem_map.1 hr
  simp only [erRow, List.mem_cons, List.not_mem_nil, or_false] at hd
  rcases hd with rfl | rfl <;> exact ⟨_, rfl⟩
theorem erRows_take (l : List Er) (k : Nat) : (erRows l).take k = erRows (l.take k) := by simp [erRows, List.map_take]
theorem erRows_drop (l : List Er) (k : Nat) : (erRows l).drop k = erRows (l.drop k) := by simp [erRows, List.map_drop]
theorem erRows_app (a b : List Er) : erRows a ++ erRows b = erRows (a ++ b) := by simp [erRows]
end Go.Proofs.Ytkfjaeoehhakpaa
