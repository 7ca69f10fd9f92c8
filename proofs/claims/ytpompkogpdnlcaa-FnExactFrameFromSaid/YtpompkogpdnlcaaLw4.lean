import Derived.Test.YtpompkogpdnlcaaLw3
namespace Go.Proofs.Ytpompkogpdnlcaa
open Go.ChangeShapes Go.WideShapes Go.ChangeAt Go.RowKit

theorem name_calls {P : Program} {f : FuncId} {args : Array Value} {w : World} {Q : Ending → World → Prop} (h : ∀ W, W = w → Calls P f args W Q) : Calls P f args w Q := h w rfl

theorem toFrame_any (t f k : Int) (A : Option Addr) (n c : Nat) (xs : List UInt8) (w : World) (h : Rd w w.heap.size A n (bv xs)) (hn : n ≤ 140737488355328) :
    Calls Try.prog 27 #[fr4 t f k A n c] w (RetFt w.heap.size t f k xs w) := by
  have HH := Lib.hid h
  clear h
  go_enter Try.func27, Try.ntmps27
  go_wp2_with fail
  refine name_calls fun W hW => ?_
  have hs : W.heap.size = w.heap.size + 3 := by rw [hW]; simp
  have hb : Below w.heap.size w W := by
    rw [hW]; exact (((Below.refl _ _).alloc (Nat.le_refl _) _).alloc (by simp) _).alloc (by simp; omega) _
  have hg : W.heap[w.heap.size + 2]? = some (.cells #[.int .i64 t, .int .i64 f, .int .i64 k, .slice none 0 0] 24 (0, 0)) := by
    rw [hW]
    refine Eq.trans (congrArg _ ?_) (heap_alloc_new _ _)
    simp
  have hr : W.heap[w.heap.size + 1]? = some (.cells #[.int .i64 0, .int .i64 0, .int .i64 0, .slice none 0 0] 24 (0, 0)) := by
    rw [hW]
    refine (Below.heap_alloc _ _ _ (by simp)).trans (Eq.trans (congrArg _ ?_) (heap_alloc_new _ _))
    simp
  have HG := Lib.hid hg
  have HR := Lib.hid hr
  have HB := Lib.hid hb
  have HS := Lib.hid hs
  have hRd := (HH.out.below hb).up hb.size
  clear hg hr hb hW hs
  refine (toByteS_any A n c xs W hRd hn).mono ?_
  rintro e w1 ⟨A1, n1, c1, rfl, o1, b1⟩
  have hg1 := (b1.block (w.heap.size + 2) (by have := HS.out; omega)).trans HG.out
  have hr1 := (b1.block (w.heap.size + 1) (by have := HS.out; omega)).trans HR.out
  obtain ⟨j0, j1, j2, j3⟩ := cells4 hg1
  obtain ⟨f0, f1, f2, f3⟩ := frozen4 hg1
  obtain ⟨k0, k1, k2, k3⟩ := cells4 hr1
  obtain ⟨p0, p1, p2, p3⟩ := frozen4 hr1
  have hb1 := HB.out.trans (b1.mono HB.out.size)
  have HB1 := Lib.hid hb1
  have HO := Lib.hid o1
  clear hRd hg1 hr1 hb1 o1 b1
  go_wp2
  refine bodyPost_ret (v := fr4 t f k A1 n1 c1) (by simp [results, Try.results27, go_sem, k0, k1, k2, k3]) rfl ?_
  have hsz := HS.out
  refine ⟨A1, n1, c1, rfl, own_base (ownsRow_setCell_below (ownsRow_setCell_below (ownsRow_setCell_below (ownsRow_setCell_below (ownsRow_setCell_below HO.out (by simp; omega) _) (by simp; omega) _) (by simp; omega) _) (by simp; omega) _) (by simp; omega) _) (by omega), ?_⟩
  exact ((((HB1.out.setCell (by simp; omega) _).setCell (by simp) _).setCell (by simp) _).setCell (by simp) _).setCell (by simp) _
end Go.Proofs.Ytpompkogpdnlcaa
