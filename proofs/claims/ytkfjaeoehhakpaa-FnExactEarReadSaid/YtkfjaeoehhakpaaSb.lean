import Derived.Test.YtkfjaeoehhakpaaR5
import Derived.Test.YtkfjaeoehhakpaaTy
namespace Go.Proofs.Ytkfjaeoehhakpaa
open Go.RowKit
set_option linter.unusedSimpArgs false
theorem mixed : Try.prog.follows .mixedOrders = true := by kernel_rfl
theorem wrap_id {x : Int} (h1 : -9223372036854775808 ≤ x) (h2 : x ≤ 9223372036854775807) : IntKind.i64.wrap x = x := by
  rw [IntKind.wrap_i64]
  omega
theorem row_beyond (xs : List UInt8) (k : Nat) (h : xs.length ≤ k) : (rowsOfBytes xs).getD k [] = [] := by
  rw [List.getD, List.getElem?_eq_none (by rw [rowsOf_len]; omega)]; rfl
theorem row_toI (xs : List UInt8) (k : Nat) : (((rowsOfBytes xs).getD k []).headD (D.v undef)).toI = ((xs.getD k 0).toNat : Int) := by
  by_cases h : k < xs.length
  · rw [rowsOf_get _ _ h]; rfl
  · rw [row_beyond _ _ (by omega), List.getD, List.getElem?_eq_none (by omega)]; rfl
theorem row_nil (xs : List UInt8) (k : Nat) : ((rowsOfBytes xs).getD k [] = []) = (xs.length ≤ k) := by
  refine propext ⟨fun h => Nat.le_of_not_lt fun hk => ?_, row_beyond xs k⟩
  rw [rowsOf_get _ _ hk] at h; cases h
theorem row_head (xs : List UInt8) (k : Nat) (n : Int) : (((rowsOfBytes xs).getD k []).headD (D.v undef) = D.v (.int .u8 n)) = (k < xs.length ∧ ((xs.getD k 0).toNat : Int) = n) := by
  refine propext ⟨fun h => ?_, fun ⟨h, e⟩ => by rw [rowsOf_get _ _ h, e]; rfl⟩
  by_cases hk : k < xs.length
  · rw [rowsOf_get _ _ hk] at h
    simp at h
    exact ⟨hk, h⟩
  · rw [row_beyond _ _ (by omega)] at h
    cases h
end Go.Proofs.Ytkfjaeoehhakpaa
namespace Go.Proofs.Ytkfjaeoehhakpaa
open Go.RowKit
set_option linter.unusedSimpArgs false
def loopK {α : Type} (S0 : List Nat) (T : α → List AV) (H : α → HP) (φ : α → Prop) (μ : α → Nat) (x : α) (K : Post) : Post := fun e tm' hp' n' => match e with | .normal => ∃ y p, φ y ∧ μ y < μ x ∧ Fits tm' hp' (T y) (H y) p ∧ keepIds S0 (H y) p = true | e => K e tm' hp' n'
section
variable (P : Program) (G : List (FuncId × Abs)) (S0 : List Nat) (K : Post) (tm : List AV) (hp : HP) (n : Nat) (a : Code)
theorem e_loop {α : Type} (T : α → List AV) (H : α → HP) (φ : α → Prop) (μ : α → Nat) (n1 : Nat) (h1 : ∀ x, ((H x).all fun p => decide (p.1 < n1)) = true) (h2 : ∃ x p, φ x ∧ Fits tm hp (T x) (H x) p ∧ keepIds S0 (H x) p = true)
    (h3 : ∀ x, φ x → vc P G S0 a (loopK S0 T H φ μ x K) (T x) (H x) n1) : vc P G S0 (.loop a) K tm hp n := by
  rw [vc]
  exact ⟨α, T, H, φ, μ, n1, h1, h2, h3⟩
variable {α : Type} (T : α → List AV) (H : α → HP) (φ : α → Prop) (μ : α → Nat) (x : α)
theorem loopK_normal : loopK S0 T H φ μ x K .normal tm hp n = ∃ y p, φ y ∧ μ y < μ x ∧ Fits tm hp (T y) (H y) p ∧ keepIds S0 (H y) p = true := rfl
theorem loopK_ret : loopK S0 T H φ μ x K .ret tm hp n = K .ret tm hp n := rfl
theorem loopK_exit (id : Nat) : loopK S0 T H φ μ x K (.exit id) tm hp n = K (.exit id) tm hp n := rfl
end
def toU8 (v : Int) : UInt8 := UInt8.ofNat (IntKind.u8.wrap v).toNat
theorem toU8_val (v : Int) : ((toU8 v).toNat : Int) = IntKind.u8.wrap v := by
  rw [toU8, IntKind.wrap_u8, UInt8.toNat_ofNat']
  omega
end Go.Proofs.Ytkfjaeoehhakpaa
namespace Go.Proofs.Ytkfjaeoehhakpaa
open Go.RowKit
set_option linter.unusedSimpArgs false
structure FrameV where
  to : Int
  frm : Int
  kind : Int
  data : List UInt8
  p : Int
end Go.Proofs.Ytkfjaeoehhakpaa
