import Derived.Test.YtdanjfnobanehaaC1a
import Derived.Test.YtdanjfnobanehaaMem
import Derived.Outline
import Derived.Laws.BytesArg
import Derived.Laws.IdiomStrings
namespace Go.Proofs.Ytdanjfnobanehaa
open Go.ChangeShapes Go.WideShapes Go.ChangeAt Go.RowKit

theorem conv_rd {w : World} {B n : Nat} {A : Option Addr} {xs : List UInt8} (h : Rd w B A n (bv xs)) (c : Nat) :
    (convert 22 9 (.slice A n c)).run Try.prog w = .ok (.string ⟨xs.toArray⟩) w := by
  have hl := rd_len h
  subst hl
  rcases A with _ | a
  · have h0 : xs = [] := by
      rcases xs with _ | ⟨x, r⟩
      · rfl
      · obtain ⟨b, off, e, _⟩ := h.cells (by simp)
        cases e
    subst h0
    exact run_convert_bytes_nil _ _ _ Try.underlying22 Try.underlying5 _ _ _ Try.underlying9
  · refine run_convert_bytes_back w _ _ _ a c xs Try.underlying22 Try.underlying5 Try.underlying9 fun j hj => ?_
    obtain ⟨b, off, x, e, _, hx, hc⟩ := h.byte hj
    injection e with e
    subst e
    have ha : (⟨b, off, none⟩ : Addr).add j = ⟨b, off + j, none⟩ := by unfold Addr.add; split <;> simp_all
    rw [ha, hc, show xs[j] = x from by rw [List.getElem?_eq_getElem hj] at hx; exact Option.some.inj hx]

theorem sameBytes_any (A A' : Option Addr) (n n' c c' B : Nat) (xs ys : List UInt8) (w : World) (h : Rd w B A n (bv xs)) (h' : Rd w B A' n' (bv ys)) :
    Calls Try.prog 22 #[.slice A n c, .slice A' n' c'] w fun e w' => e = .returned (.bool (xs == ys)) ∧ w = w' := by
  have e1 := conv_rd h c
  have e2 := conv_rd h' c'
  clear h h'
  go_enter Try.func22, Try.ntmps22
  go_wp2
  go_ret
  exact ⟨rfl, rfl⟩

theorem alive_any (w : World) : Calls Try.prog 20 #[] w fun e w' => e = .returned (.bool true) ∧ Below w.heap.size w w' := by
  go_enter Try.func20, Try.ntmps20
  go_wp2_with fail
  refine (bytesOf_impl 5 1 _ (by decide)).mono ?_
  rintro e w1 ⟨A1, n1, c1, rfl, o1, b1⟩
  have l1 := own_len o1
  obtain rfl : n1 = 1 := l1
  go_wp2_with fail
  refine (bytesOf_impl 256 1 _ (by decide)).mono ?_
  rintro e w2 ⟨A2, n2, c2, rfl, o2, b2⟩
  have l2 := own_len o2
  obtain rfl : n2 = 0 := l2
  have bb := b1.trans (b2.mono b1.size)
  go_wp2
  go_ret
  exact ⟨rfl, bb⟩
end Go.Proofs.Ytdanjfnobanehaa
