import Derived.Test.YtpompkogpdnlcaaC2a
import Derived.Test.YtpompkogpdnlcaaMem3
import Derived.Test.YtpompkogpdnlcaaPast
namespace Go.Proofs.Ytpompkogpdnlcaa
open Go.ChangeShapes Go.WideShapes Go.ChangeAt Go.RowKit

/-- a frame is for a station -/
def frFor (t f k : Int) (n : Nat) (l : Int) : Bool := frOk t f k n && inB l 0 254 && (t == l || t == 255 && f != l)

set_option maxHeartbeats 1000000 in
theorem frameFor_impl (t f k l : Int) (A : Option Addr) (n c : Nat) (w : World) (hn : n ≤ 140737488355328) :
    Calls Try.prog 24 #[.agg #[.int .i64 t, .int .i64 f, .int .i64 k, .slice A n c], .int .i64 l] w fun e w' => e = .returned (.bool (frFor t f k n l)) ∧ Below w.heap.size w w' := by
  have HB := Lib.hid (show Below w.heap.size w (w.alloc (.cells #[.int .i64 t, .int .i64 f, .int .i64 k, .slice A n c] 24)) from (Below.refl _ _).alloc (Nat.le_refl _) _)
  have HH := Lib.hid (heap_alloc_new w (.cells #[.int .i64 t, .int .i64 f, .int .i64 k, .slice A n c] 24))
  rcases hok : frOk t f k n with _ | _
  · have HOK := Lib.hid hok
    have HL := Lib.hid (show inB l 0 254 = inB l 0 254 from rfl)
    clear hok
    go_enter Try.func24, Try.ntmps24
    go_wp2_with (first | (go_at_call 12; refine (frameOk_impl t f k A n c _ hn).mono ?_; rw [HOK.out]; rintro e w1 ⟨rfl, b1⟩; have hg1 := (b1.block w.heap.size (by simp)).trans HH.out; obtain ⟨j0, j1, j2, j3⟩ := cells4 hg1; have HB1 := Lib.hid (HB.out.trans (b1.mono (by simp))); clear hg1 b1) | (go_at_call 37; refine (isLink_any _ _).mono ?_; rw [HL.out]; rintro e w2 ⟨rfl, rfl⟩))
    go_ret
    exact ⟨ret_b (by simp [frFor, HOK.out]), HB1.out⟩
  have HOK := Lib.hid hok
  clear hok
  rcases hl : inB l 0 254 with _ | _
  · have HL := Lib.hid hl
    clear hl
    go_enter Try.func24, Try.ntmps24
    go_wp2_with (first | (go_at_call 12; refine (frameOk_impl t f k A n c _ hn).mono ?_; rw [HOK.out]; rintro e w1 ⟨rfl, b1⟩; have hg1 := (b1.block w.heap.size (by simp)).trans HH.out; obtain ⟨j0, j1, j2, j3⟩ := cells4 hg1; have HB1 := Lib.hid (HB.out.trans (b1.mono (by simp))); clear hg1 b1) | (go_at_call 37; refine (isLink_any _ _).mono ?_; rw [HL.out]; rintro e w2 ⟨rfl, rfl⟩))
    go_ret
    exact ⟨ret_b (by simp [frFor, HL.out]), HB1.out⟩
  have HL := Lib.hid hl
  clear hl
  rcases h1 : (t == l) with _ | _
  · rcases h2 : (t == 255) with _ | _
    · have HR : Hid (false = frFor t f k n l) := Lib.hid (by simp only [frFor, HOK.out, HL.out, h1, h2]; rfl)
      go_enter Try.func24, Try.ntmps24
      go_wp2_with (first | (go_at_call 12; refine (frameOk_impl t f k A n c _ hn).mono ?_; rw [HOK.out]; rintro e w1 ⟨rfl, b1⟩; have hg1 := (b1.block w.heap.size (by simp)).trans HH.out; obtain ⟨j0, j1, j2, j3⟩ := cells4 hg1; have HB1 := Lib.hid (HB.out.trans (b1.mono (by simp))); clear hg1 b1) | (go_at_call 37; refine (isLink_any _ _).mono ?_; rw [HL.out]; rintro e w2 ⟨rfl, rfl⟩))
      go_ret
      exact ⟨ret_b (by rw [HR.out]), HB1.out⟩
    have HR : Hid ((f != l) = frFor t f k n l) := Lib.hid (by simp only [frFor, HOK.out, HL.out, h1, h2]; simp)
    go_enter Try.func24, Try.ntmps24
    go_wp2_with (first | (go_at_call 12; refine (frameOk_impl t f k A n c _ hn).mono ?_; rw [HOK.out]; rintro e w1 ⟨rfl, b1⟩; have hg1 := (b1.block w.heap.size (by simp)).trans HH.out; obtain ⟨j0, j1, j2, j3⟩ := cells4 hg1; have HB1 := Lib.hid (HB.out.trans (b1.mono (by simp))); clear hg1 b1) | (go_at_call 37; refine (isLink_any _ _).mono ?_; rw [HL.out]; rintro e w2 ⟨rfl, rfl⟩))
    go_ret
    exact ⟨ret_b (by rw [HR.out]), HB1.out⟩
  have HR : Hid (true = frFor t f k n l) := Lib.hid (by simp only [frFor, HOK.out, HL.out, h1]; rfl)
  go_enter Try.func24, Try.ntmps24
  go_wp2_with (first | (go_at_call 12; refine (frameOk_impl t f k A n c _ hn).mono ?_; rw [HOK.out]; rintro e w1 ⟨rfl, b1⟩; have hg1 := (b1.block w.heap.size (by simp)).trans HH.out; obtain ⟨j0, j1, j2, j3⟩ := cells4 hg1; have HB1 := Lib.hid (HB.out.trans (b1.mono (by simp))); clear hg1 b1) | (go_at_call 37; refine (isLink_any _ _).mono ?_; rw [HL.out]; rintro e w2 ⟨rfl, rfl⟩))
  go_ret
  exact ⟨ret_b (by rw [HR.out]), HB1.out⟩

set_option maxHeartbeats 1000000 in
theorem frameFor_spec (t f k l : Int) (A : Option Addr) (n c : Nat) (w : World) (hn : n ≤ 140737488355328) :
    Calls Try.prog 25 #[.agg #[.int .i64 t, .int .i64 f, .int .i64 k, .slice A n c], .int .i64 l] w fun e w' => e = .returned (.bool (frFor t f k n l)) ∧ Below w.heap.size w w' := by
  have HB := Lib.hid (show Below w.heap.size w (w.alloc (.cells #[.int .i64 t, .int .i64 f, .int .i64 k, .slice A n c] 24)) from (Below.refl _ _).alloc (Nat.le_refl _) _)
  have HH := Lib.hid (heap_alloc_new w (.cells #[.int .i64 t, .int .i64 f, .int .i64 k, .slice A n c] 24))
  rcases hok : frOk t f k n with _ | _
  · have HOK := Lib.hid hok
    have HL := Lib.hid (show inB l 0 254 = inB l 0 254 from rfl)
    clear hok
    go_enter Try.func25, Try.ntmps25
    go_wp2_with (first | (go_at_call 13; refine (frameOk_spec t f k A n c _ hn).mono ?_; rw [HOK.out]; rintro e w1 ⟨rfl, b1⟩; have hg1 := (b1.block w.heap.size (by simp)).trans HH.out; obtain ⟨j0, j1, j2, j3⟩ := cells4 hg1; have HB1 := Lib.hid (HB.out.trans (b1.mono (by simp))); clear hg1 b1) | (go_at_call 39; refine (l1In_any _ _ _ _).mono ?_; rw [HL.out]; rintro e w2 ⟨rfl, rfl⟩))
    go_ret
    exact ⟨ret_b (by simp [frFor, HOK.out]), HB1.out⟩
  have HOK := Lib.hid hok
  clear hok
  rcases hl : inB l 0 254 with _ | _
  · have HL := Lib.hid hl
    clear hl
    go_enter Try.func25, Try.ntmps25
    go_wp2_with (first | (go_at_call 13; refine (frameOk_spec t f k A n c _ hn).mono ?_; rw [HOK.out]; rintro e w1 ⟨rfl, b1⟩; have hg1 := (b1.block w.heap.size (by simp)).trans HH.out; obtain ⟨j0, j1, j2, j3⟩ := cells4 hg1; have HB1 := Lib.hid (HB.out.trans (b1.mono (by simp))); clear hg1 b1) | (go_at_call 39; refine (l1In_any _ _ _ _).mono ?_; rw [HL.out]; rintro e w2 ⟨rfl, rfl⟩))
    go_ret
    exact ⟨ret_b (by simp [frFor, HL.out]), HB1.out⟩
  have HL := Lib.hid hl
  clear hl
  rcases h1 : (t == l) with _ | _
  · rcases h2 : (t == 255) with _ | _
    · have HR : Hid (false = frFor t f k n l) := Lib.hid (by simp only [frFor, HOK.out, HL.out, h1, h2]; rfl)
      go_enter Try.func25, Try.ntmps25
      go_wp2_with (first | (go_at_call 13; refine (frameOk_spec t f k A n c _ hn).mono ?_; rw [HOK.out]; rintro e w1 ⟨rfl, b1⟩; have hg1 := (b1.block w.heap.size (by simp)).trans HH.out; obtain ⟨j0, j1, j2, j3⟩ := cells4 hg1; have HB1 := Lib.hid (HB.out.trans (b1.mono (by simp))); clear hg1 b1) | (go_at_call 39; refine (l1In_any _ _ _ _).mono ?_; rw [HL.out]; rintro e w2 ⟨rfl, rfl⟩))
      go_ret
      exact ⟨ret_b (by rw [HR.out]), HB1.out⟩
    have HR : Hid ((f != l) = frFor t f k n l) := Lib.hid (by simp only [frFor, HOK.out, HL.out, h1, h2]; simp)
    go_enter Try.func25, Try.ntmps25
    go_wp2_with (first | (go_at_call 13; refine (frameOk_spec t f k A n c _ hn).mono ?_; rw [HOK.out]; rintro e w1 ⟨rfl, b1⟩; have hg1 := (b1.block w.heap.size (by simp)).trans HH.out; obtain ⟨j0, j1, j2, j3⟩ := cells4 hg1; have HB1 := Lib.hid (HB.out.trans (b1.mono (by simp))); clear hg1 b1) | (go_at_call 39; refine (l1In_any _ _ _ _).mono ?_; rw [HL.out]; rintro e w2 ⟨rfl, rfl⟩))
    go_ret
    exact ⟨ret_b (by rw [HR.out]), HB1.out⟩
  have HR : Hid (true = frFor t f k n l) := Lib.hid (by simp only [frFor, HOK.out, HL.out, h1]; rfl)
  go_enter Try.func25, Try.ntmps25
  go_wp2_with (first | (go_at_call 13; refine (frameOk_spec t f k A n c _ hn).mono ?_; rw [HOK.out]; rintro e w1 ⟨rfl, b1⟩; have hg1 := (b1.block w.heap.size (by simp)).trans HH.out; obtain ⟨j0, j1, j2, j3⟩ := cells4 hg1; have HB1 := Lib.hid (HB.out.trans (b1.mono (by simp))); clear hg1 b1) | (go_at_call 39; refine (l1In_any _ _ _ _).mono ?_; rw [HL.out]; rintro e w2 ⟨rfl, rfl⟩))
  go_ret
  exact ⟨ret_b (by rw [HR.out]), HB1.out⟩
end Go.Proofs.Ytpompkogpdnlcaa
