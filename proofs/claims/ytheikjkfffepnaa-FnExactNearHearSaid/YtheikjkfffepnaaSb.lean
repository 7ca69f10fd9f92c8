import Derived.Test.YtheikjkfffepnaaR5
import Derived.Test.YtheikjkfffepnaaTy
namespace Go.Proofs.Ytheikjkfffepnaa
open Go.RowKit
set_option linter.unusedSimpArgs false

theorem mixed : Try.prog.follows .mixedOrders = true := by kernel_rfl

theorem wrap_id {x : Int} (h1 : -9223372036854775808 ≤ x) (h2 : x ≤ 9223372036854775807) : IntKind.i64.wrap x = x := by
  rw [IntKind.wrap_i64]
  omega
/-! the reader of a code -/
def pickX (xs : List UInt8) (m : Nat) : Nat := (xs.getD (m % xs.length) 0).toNat * 131 + (xs.getD ((m * 7 + 3) % xs.length) 0).toNat * 1117 + m * 29 + m / xs.length * 53
def pickV (xs : List UInt8) (p n : Int) : Int :=
  if n < 1 ∨ xs.length = 0 then 0
  else if p < xs.length then ((xs.getD p.toNat 0).toNat : Int).tmod n
  else (bits .xor .i64 (pickX xs p.toNat : Int) ((pickX xs p.toNat / 64 : Nat) : Int)).tmod n
end Go.Proofs.Ytheikjkfffepnaa

namespace Go.Proofs.Ytheikjkfffepnaa
open Go.RowKit
set_option linter.unusedSimpArgs false

def loopK {α : Type} (S0 : List Nat) (T : α → List AV) (H : α → HP) (φ : α → Prop) (μ : α → Nat) (x : α) (K : Post) : Post := fun e tm' hp' n' => match e with | .normal => ∃ y p, φ y ∧ μ y < μ x ∧ Fits tm' hp' (T y) (H y) p ∧ keepIds S0 (H y) p = true | e => K e tm' hp' n'
section
variable (P : Program) (G : List (FuncId × Abs)) (S0 : List Nat) (K : Post) (tm : List AV) (hp : HP) (n : Nat) (a : Code)
theorem e_loop {α : Type} (T : α → List AV) (H : α → HP) (φ : α → Prop) (μ : α → Nat) (n1 : Nat) (h1 : ∀ x, ((H x).all fun p => decide (p.1 < n1)) = true) (h2 : ∃ x p, φ x ∧ Fits tm hp (T x) (H x) p ∧ keepIds S0 (H x) p = true)
    (h3 : ∀ x, φ x → vc P G S0 a (loopK S0 T H φ μ x K) (T x) (H x) n1) : vc P G S0 (.loop a) K tm hp n := by
  rw [vc]
  exact ⟨α, T, H, φ, μ, n1, h1, h2, h3⟩
variable {α : Type} (T : α → List AV) (H : α → HP) (φ : α → Prop) (μ : α → Nat) (x : α)
theorem loopK_normal : loopK S0 T H φ μ x K .normal tm hp n = ∃ y p, φ y ∧ μ y < μ x ∧ Fits tm hp (T y) (H y) p ∧ keepIds S0 (H y) p = true := rfl
theorem loopK_ret : loopK S0 T H φ μ x K .ret tm hp n = K .ret tm hp n := rfl
theorem loopK_exit (id : Nat) : loopK S0 T H φ μ x K (.exit id) tm hp n = K (.exit id) tm hp n := rfl
end

/-! odd -/
/-! bytes -/
def toU8 (v : Int) : UInt8 := UInt8.ofNat (IntKind.u8.wrap v).toNat
theorem toU8_val (v : Int) : ((toU8 v).toNat : Int) = IntKind.u8.wrap v := by
  rw [toU8, IntKind.wrap_u8, UInt8.toNat_ofNat']
  omega
def byteV (xs : List UInt8) (p : Int) : UInt8 := if pickV xs p 3 = 0 then toU8 (pickV xs (p + 1) 256) else toU8 (IntKind.i64.wrap (pickV xs (p + 1) 3 + 97))
def bytesV (xs : List UInt8) (p : Int) (k : Nat) : List UInt8 := (List.range k).map fun i : Nat => byteV xs (p + 2 * (i : Int))
end Go.Proofs.Ytheikjkfffepnaa

namespace Go.Proofs.Ytheikjkfffepnaa
open Go.RowKit
set_option linter.unusedSimpArgs false

/-! a reader is opened -/
/-! a frame is drawn -/
structure FrameV where
  to : Int
  frm : Int
  kind : Int
  data : List UInt8
  p : Int
def frameP (xs : List UInt8) (p : Int) : Int := p + 1 + 1 + 1 + 1 + 2 * ((pickV xs (p + 1 + 1 + 1) 9).toNat : Int)
def oneIf (n : Int) : Int := if 0 < n then 1 else 0
def frameV (xs : List UInt8) (p n : Int) : FrameV :=
  if (decide (0 < n) && pickV xs (frameP xs p + 1) n == n - 1) = true then
    if pickV xs (frameP xs p + 1 + oneIf n) 4 = 0 then ⟨IntKind.i64.wrap (256 - IntKind.i64.wrap (pickV xs (frameP xs p + 1 + oneIf n + 1) 2 * 300)), pickV xs (p + 1) 4, pickV xs (p + 1 + 1) 5, bytesV xs (p + 1 + 1 + 1 + 1) (pickV xs (p + 1 + 1 + 1) 9).toNat, frameP xs p + 1 + oneIf n + 1 + 1⟩
    else if pickV xs (frameP xs p + 1 + oneIf n) 4 = 1 then ⟨if pickV xs (frameP xs p) 3 = 0 then 255 else pickV xs p 4, 255, pickV xs (p + 1 + 1) 5, bytesV xs (p + 1 + 1 + 1 + 1) (pickV xs (p + 1 + 1 + 1) 9).toNat, frameP xs p + 1 + oneIf n + 1⟩
    else if pickV xs (frameP xs p + 1 + oneIf n) 4 = 2 then ⟨if pickV xs (frameP xs p) 3 = 0 then 255 else pickV xs p 4, pickV xs (p + 1) 4, 256, bytesV xs (p + 1 + 1 + 1 + 1) (pickV xs (p + 1 + 1 + 1) 9).toNat, frameP xs p + 1 + oneIf n + 1⟩
    else ⟨if pickV xs (frameP xs p) 3 = 0 then 255 else pickV xs p 4, pickV xs (p + 1) 4, pickV xs (p + 1 + 1) 5, List.replicate 65 0, frameP xs p + 1 + oneIf n + 1⟩
  else ⟨if pickV xs (frameP xs p) 3 = 0 then 255 else pickV xs p 4, pickV xs (p + 1) 4, pickV xs (p + 1 + 1) 5, bytesV xs (p + 1 + 1 + 1 + 1) (pickV xs (p + 1 + 1 + 1) 9).toNat, frameP xs p + 1 + oneIf n⟩
end Go.Proofs.Ytheikjkfffepnaa
