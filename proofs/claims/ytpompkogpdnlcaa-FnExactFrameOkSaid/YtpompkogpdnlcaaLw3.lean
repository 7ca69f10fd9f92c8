import Derived.Test.YtpompkogpdnlcaaLw2
import Derived.Test.YtpompkogpdnlcaaPast
namespace Go.Proofs.Ytpompkogpdnlcaa
open Go.ChangeShapes Go.WideShapes Go.ChangeAt Go.RowKit

/-- a frame as a value -/
abbrev fr4 (t f k : Int) (A : Option Addr) (n c : Nat) : Value := .agg #[.int .i64 t, .int .i64 f, .int .i64 k, .slice A n c]
/-- what is left of a bound -/
def szLeft (l : Int) (n : Nat) : Int := if l - (n : Int) < 0 then -1 else l - (n : Int)

theorem szLeft_no {l : Int} {n : Nat} (h : l < (n : Int)) : szLeft l n = -1 := by unfold szLeft; rw [if_pos (by omega)]
theorem szLeft_yes {l : Int} {n : Nat} (h : (n : Int) ≤ l) : szLeft l n = l - n := by unfold szLeft; rw [if_neg (by omega)]

theorem szByteS_any (A : Option Addr) (n c : Nat) (l : Int) (w : World) (hn : n ≤ 9223372036854775807) (hl : 0 ≤ l ∧ l ≤ 1048576) :
    Calls Try.prog 46 #[.slice A n c, .int .i64 l] w fun e w' => e = .returned (.int .i64 (szLeft l n)) ∧ w = w' := by
  by_cases h : l - (n : Int) < 0
  · go_enter Try.func46, Try.ntmps46
    go_wp2
    go_ret
    exact ⟨ret_i (by simp [szLeft, h]), rfl⟩
  · go_enter Try.func46, Try.ntmps46
    go_wp2
    go_ret
    exact ⟨ret_i (by unfold szLeft; rw [if_neg (by omega)]), rfl⟩

theorem szFrame_any (t f k : Int) (A : Option Addr) (n c : Nat) (l : Int) (w : World) (hn : n ≤ 9223372036854775807) (hl : 0 ≤ l ∧ l ≤ 1048576) :
    Calls Try.prog 26 #[fr4 t f k A n c, .int .i64 l] w fun e w' => e = .returned (.int .i64 (szLeft l n)) ∧ Below w.heap.size w w' := by
  have HB := Lib.hid (show Below w.heap.size w (w.alloc (.cells #[.int .i64 t, .int .i64 f, .int .i64 k, .slice A n c] 38)) from (Below.refl _ _).alloc (Nat.le_refl _) _)
  obtain ⟨z, hz⟩ : ∃ z, z = szLeft l n := ⟨_, rfl⟩
  have HZ := Lib.hid hz
  by_cases h : z < 0
  · have h' : z = -1 := by rw [hz, szLeft] at h ⊢; split <;> simp_all
    have HZ' := Lib.hid h'
    clear hz h'
    go_enter Try.func26, Try.ntmps26
    go_wp2_with (go_at_call 46; refine (szByteS_any A n c l _ hn hl).mono ?_; rw [← HZ.out]; rintro e w1 ⟨rfl, rfl⟩)
    go_ret
    exact ⟨ret_i (by rw [← HZ.out, HZ'.out]), HB.out⟩
  · clear hz
    go_enter Try.func26, Try.ntmps26
    go_wp2_with (go_at_call 46; refine (szByteS_any A n c l _ hn hl).mono ?_; rw [← HZ.out]; rintro e w1 ⟨rfl, rfl⟩)
    go_ret
    exact ⟨ret_i HZ.out, HB.out⟩

theorem eqFrame_any (t f k t' f' k' : Int) (A A' : Option Addr) (n n' c c' B : Nat) (xs ys : List UInt8) (w : World) (h : Rd w B A n (bv xs)) (h' : Rd w B A' n' (bv ys)) (hB : B ≤ w.heap.size) (hn : n ≤ 140737488355328) (hn' : n' ≤ 140737488355328) :
    Calls Try.prog 28 #[fr4 t f k A n c, fr4 t' f' k' A' n' c'] w fun e w' => e = .returned (.bool (t == t' && f == f' && k == k' && xs == ys)) ∧ Below w.heap.size w w' := by
  have hb := (((Below.refl w.heap.size w).alloc (Nat.le_refl _) (.cells #[.int .i64 t, .int .i64 f, .int .i64 k, .slice A n c] 24))).alloc (by simp) (.cells #[.int .i64 t', .int .i64 f', .int .i64 k', .slice A' n' c'] 24)
  have r1 := h.below (hb.mono hB)
  have r2 := h'.below (hb.mono hB)
  have HB := Lib.hid hb
  clear hb h h'
  rcases h1 : (t != t') with _ | _
  · rcases h2 : (f != f') with _ | _
    · rcases h3 : (k != k') with _ | _
      · have HR : Hid ((xs == ys) = (t == t' && f == f' && k == k' && xs == ys)) := Lib.hid (by simp at h1 h2 h3; simp [h1, h2, h3])
        obtain ⟨q, hq⟩ : ∃ q, q = (xs == ys) := ⟨_, rfl⟩
        have HQ := Lib.hid hq
        clear hq
        rcases q with _ | _
        all_goals
          go_enter Try.func28, Try.ntmps28
          go_wp2_with (go_at_call 29; refine (eqByteS_any _ _ _ _ _ _ _ xs ys _ r1 r2 hn hn').mono ?_; rw [← HQ.out]; rintro e w1 ⟨rfl, b1⟩)
          go_ret
          exact ⟨ret_b (by rw [← HR.out, ← HQ.out]), HB.out.trans (b1.mono HB.out.size)⟩
      · have HR : Hid (false = (t == t' && f == f' && k == k' && xs == ys)) := Lib.hid (by simp at h3; simp [h3])
        go_enter Try.func28, Try.ntmps28
        go_wp2
        go_ret
        exact ⟨ret_b HR.out, HB.out⟩
    · have HR : Hid (false = (t == t' && f == f' && k == k' && xs == ys)) := Lib.hid (by simp at h2; simp [h2])
      go_enter Try.func28, Try.ntmps28
      go_wp2
      go_ret
      exact ⟨ret_b HR.out, HB.out⟩
  · have HR : Hid (false = (t == t' && f == f' && k == k' && xs == ys)) := Lib.hid (by simp at h1; simp [h1])
    go_enter Try.func28, Try.ntmps28
    go_wp2
    go_ret
    exact ⟨ret_b HR.out, HB.out⟩

/-- a frame in new memory -/
def RetFt (B : Nat) (t f k : Int) (xs : List UInt8) (w : World) (e : Ending) (w' : World) : Prop :=
  ∃ A n c, e = .returned (fr4 t f k A n c) ∧ w'.ownsRow B 5 1 (.slice A n c) n (bv xs) ∧ Below B w w'

theorem heldFrame_any (t f k : Int) (A : Option Addr) (n c B m : Nat) (w : World) (h : Rd w B A n (bv (marks m n))) (hB : B ≤ w.heap.size) (hn : n ≤ 1099511627776) (hk : m ≤ 1099511627776) :
    Calls Try.prog 34 #[fr4 t f k A n c, .int .i64 m] w fun e w' => e = .returned (.int .i64 ((m + n : Nat) : Int)) ∧ Below w.heap.size w w' := by
  have hb := ((Below.refl w.heap.size w).alloc (Nat.le_refl _) (.cells #[.int .i64 t, .int .i64 f, .int .i64 k, .slice A n c] 24))
  have r1 := h.below (hb.mono hB)
  have HB := Lib.hid hb
  clear hb h
  have hp : ¬ ((m + n : Nat) : Int) < 0 := by omega
  go_enter Try.func34, Try.ntmps34
  go_wp2_with (go_at_call 32; refine (heldByteS_any _ _ _ _ m _ r1 hn hk).mono ?_; rintro e w1 ⟨rfl, rfl⟩)
  go_ret
  exact ⟨rfl, HB.out⟩

theorem markFrame_any (t f k : Int) (A : Option Addr) (n c base m : Nat) (xs : List UInt8) (w : World) (h : w.ownsRow base 5 1 (.slice A n c) n (bv xs)) (hB : base ≤ w.heap.size) (hn : n ≤ 1099511627776) (hk : m ≤ 1099511627776) :
    Calls Try.prog 30 #[fr4 t f k A n c, .int .i64 m] w fun e w' => e = .returned (.int .i64 ((m + n : Nat) : Int)) ∧ w'.ownsRow base 5 1 (.slice A n c) n (bv (marks m n)) ∧ Below base w w' ∧ w.grownBy w' (Value.slice A n c).ownBlock := by
  have hb := ((Below.refl base w).alloc hB (.cells #[.int .i64 t, .int .i64 f, .int .i64 k, .slice A n c] 24))
  have o1 := h.alloc (.cells #[.int .i64 t, .int .i64 f, .int .i64 k, .slice A n c] 24)
  have HB := Lib.hid hb
  have HG := Lib.hid (World.grownBy_alloc w (.cells #[.int .i64 t, .int .i64 f, .int .i64 k, .slice A n c] 24) (Value.slice A n c).ownBlock)
  clear hb h
  go_enter Try.func30, Try.ntmps30
  go_wp2_with (go_at_call 31; refine (markByteS_any _ _ _ _ m xs _ o1 hn hk).mono ?_; rintro e w1 ⟨rfl, o2, b2, g2⟩)
  go_ret
  exact ⟨rfl, o2, HB.out.trans b2, grown_tr HG.out g2⟩
end Go.Proofs.Ytpompkogpdnlcaa
