import Derived.Test.YtpompkogpdnlcaaRl
namespace Go.Proofs.Ytpompkogpdnlcaa
open Go.RowKit

section
variable {P : Program} {w : World} {Z : Nat → Prop} {L : Nat → Blk} {s : Nat → Value} {F : Nat → Prop} {W0 : Ent}

/-- the slice of block r is no more; what it has become is block q -/
theorem HR.of2 {w' : World} (h : HR F W0 w L s Z) {r q : Nat} (hr : (L r).live) (hq : L q = .none) (B : Blk) (v : Value)
    (ho : w'.os = w.os) (ht : w'.tape = w.tape) (hp : w'.output = w.output) (hsz : w.heap.size ≤ w'.heap.size)
    (hfr : ∀ b, b < w.heap.size → (∀ g, vblk (s r) = some g → b ≠ g) → w'.heap[b]? = w.heap[b]?)
    (hB : Ext w Z L s w' Z (up (up L r .dead) q B) (up s q v) → BlkR w' Z (up (up L r .dead) q B) (up s q v) B v)
    (hv : ∀ g, vblk v = some g → (w.heap.size ≤ g ∧ g < w'.heap.size) ∨ vblk (s r) = some g) :
    HR F W0 w' (up (up L r .dead) q B) (up s q v) Z ∧ Ext w Z L s w' Z (up (up L r .dead) q B) (up s q v) := by
  have hne : r ≠ q := fun e => by rw [e, hq] at hr; exact hr
  have hzk : ∀ b, Z b → w'.heap[b]? = w.heap[b]? := fun b hb => hfr b (h.zin b hb) fun g hg e => h.nz r g hr hg (e ▸ hb)
  have E : Ext w Z L s w' Z (up (up L r .dead) q B) (up s q v) := by
    refine ⟨fun _ h => h, hzk, fun k => ?_, fun k e sz rows sz' rows' h1 h2 => ?_⟩
    · by_cases e : k = q
      · subst e; exact .fresh hq
      · rw [up_ne _ _ e, up_ne _ _ e]
        by_cases e' : k = r
        · subst e'; exact .dead (up_same _ _ _)
        · rw [up_ne _ _ e']; exact Like.refl _ _
    · by_cases e' : k = q
      · subst e'; rw [hq] at h1; cases h1
      · rw [up_ne _ _ e'] at h2
        by_cases e'' : k = r
        · subst e''; rw [up_same] at h2; cases h2
        · rw [up_ne _ _ e'', h1] at h2; cases h2
  have hfr' : ∀ k, k ≠ r → (L k).live → ∀ g, vblk (s k) = some g → w'.heap[g]? = w.heap[g]? := fun k hk hl g hg =>
    hfr g (h.mine k g hl hg).2 fun g' hg' e => hk (h.sep k r g hl hr hg (by rw [hg', e]))
  have look : ∀ k, (up (up L r .dead) q B k).live → (k = q ∧ up s q v k = v) ∨ (k ≠ q ∧ k ≠ r ∧ (L k).live ∧ up s q v k = s k) := fun k hk => by
    by_cases e : k = q
    · subst e; exact .inl ⟨rfl, up_same _ _ _⟩
    · rw [up_ne _ _ e] at hk
      by_cases e' : k = r
      · subst e'; rw [up_same] at hk; exact hk.elim
      · rw [up_ne _ _ e'] at hk; exact .inr ⟨e, e', hk, up_ne _ _ e⟩
  refine ⟨⟨fun k => ?_, fun k k' g hk hk' hg hg' => ?_, fun k g hk hg hz => ?_, fun k g hk hg => ?_, fun b hb => Nat.lt_of_lt_of_le (h.zin b hb) hsz, ?_, h.zsrc, h.zhas⟩, E⟩
  · by_cases e : k = q
    · subst e; rw [up_same, up_same]; exact hB E
    · rw [up_ne _ _ e, up_ne _ _ e]
      by_cases e' : k = r
      · subst e'; rw [up_same]; trivial
      · rw [up_ne _ _ e']; exact (h.blk k).mono E (hfr' k e')
  · rcases look k hk with ⟨e1, s1⟩ | ⟨e1, n1, l1, s1⟩ <;> rcases look k' hk' with ⟨e2, s2⟩ | ⟨e2, n2, l2, s2⟩ <;> rw [s1] at hg <;> rw [s2] at hg'
    · rw [e1, e2]
    · rcases hv g hg with ⟨h1, _⟩ | h1
      · have := (h.mine k' g l2 hg').2; omega
      · exact absurd (h.sep _ _ g l2 hr hg' h1) n2
    · rcases hv g hg' with ⟨h1, _⟩ | h1
      · have := (h.mine k g l1 hg).2; omega
      · exact absurd (h.sep _ _ g l1 hr hg h1) n1
    · exact h.sep _ _ g l1 l2 hg hg'
  · rcases look k hk with ⟨e1, s1⟩ | ⟨e1, n1, l1, s1⟩ <;> rw [s1] at hg
    · rcases hv g hg with ⟨h1, _⟩ | h1
      · have := h.zin g hz; omega
      · exact h.nz r g hr h1 hz
    · exact h.nz _ g l1 hg hz
  · rcases look k hk with ⟨e1, s1⟩ | ⟨e1, n1, l1, s1⟩ <;> rw [s1] at hg
    · rcases hv g hg with ⟨h1, h2⟩ | h1
      · exact ⟨.inr (Nat.le_trans h.kept.size h1), h2⟩
      · have := h.mine r g hr h1
        exact ⟨this.1, Nat.lt_of_lt_of_le this.2 hsz⟩
    · have := h.mine _ g l1 hg
      exact ⟨this.1, Nat.lt_of_lt_of_le this.2 hsz⟩
  · refine ⟨ho.trans h.kept.os, ht.trans h.kept.tape, hp.trans h.kept.output, Nat.le_trans h.kept.size hsz, fun b hb hF => ?_⟩
    have := h.kept.size
    refine (hfr b (by omega) fun g hg e => ?_).trans (h.kept.block b hb hF)
    subst e
    rcases (h.mine r b hr hg).1 with h1 | h1
    · exact hF h1
    · omega

theorem append_zero {T e ty : TypeId} {i : TypeInfo} (hu : P.underlying T = some (.slice e)) (hi : P.info? e = some i) {B A : Option Addr} {n cap c : Nat} (hn : n ≤ cap) :
    (Builtin.append_ #[T, T] ty #[.slice B n cap, .slice A 0 c]).run P w = .ok (.slice B n cap) w := by
  cases A <;> cases B <;> simp [Builtin.append_, run_underlying hu, sizeOf, typeInfo, hi, Builtin.lenOf, Builtin.firstCells, hn, storeCells, loadCells, loadCellsFrom]

theorem oAppend_ok (h : HR F W0 w L s Z) {T ty : TypeId} {q : Nat} (hq : L q = .none) {a b : AV} {x y : Value} (ha : AVR w Z L s a x) (hb : AVR w Z L s b y) {out : Out} (ho : oAppend P L T a b q = some out) (hc : out.c) :
    ∃ v w' s', (Builtin.append_ #[T, T] ty #[x, y]).run P w = .ok v w' ∧ HR F W0 w' (ups L out.ups) s' Z ∧ Ext w Z L s w' Z (ups L out.ups) s' ∧ AVR w' Z (ups L out.ups) s' out.dst v := by
  unfold oAppend at ho
  split at ho
  · rename_i e hu
    split at ho
    · rename_i z sz by_ ys hinf hys
      obtain ⟨i, hi, hz, his, hib⟩ := inf_info hinf
      obtain ⟨A, c, rfl, hA⟩ := rowsOf_ok h hb hys
      split at ho
      · rename_i hh
        obtain ⟨h0, hzs, hone⟩ := hh
        have hzc : ∀ k, (Builtin.zeroCells z.cells k).size = k * sz := fun k => by rw [size_zeroCells, hzs]
        split at ho
        · -- a slice of one's own
          rename_i r
          split at ho
          · rename_i e' sz' xs hL
            split at ho
            · rename_i hh2
              obtain ⟨rfl, rfl, hrq⟩ := hh2
              simp at ho; subst ho
              obtain ⟨c1, c2, c3⟩ := hc
              have hlive : (L r).live := by rw [hL]; trivial
              have hx : x = s r := by
                cases ha with
                | own _ _ _ _ _ _ hx _ => exact hx
                | ownStill _ _ _ _ hd _ _ => rw [hL] at hd; cases hd
                | ownDead _ _ hd _ => rw [hL] at hd; cases hd
              subst hx
              have hbk := h.blk r
              rw [hL] at hbk
              obtain ⟨-, us, hown, hrows⟩ := hbk.rows
              have fin : ∀ (v : Value) (w' : World), (Builtin.append_ #[T, T] ty #[s r, .slice A ys.length c]).run P w = .ok v w' →
                  HR F W0 w' (up (up L r .dead) q (.sl e' sz' (xs ++ ys))) (up s q v) Z → Ext w Z L s w' Z (up (up L r .dead) q (.sl e' sz' (xs ++ ys))) (up s q v) → (∃ A c, v = .slice A (xs ++ ys).length c) →
                  ∃ v w' s', (Builtin.append_ #[T, T] ty #[s r, .slice A ys.length c]).run P w = .ok v w' ∧ HR F W0 w' (ups L [(r, .dead), (q, .sl e' sz' (xs ++ ys))]) s' Z ∧ Ext w Z L s w' Z (ups L [(r, .dead), (q, .sl e' sz' (xs ++ ys))]) s' ∧ AVR w' Z (ups L [(r, .dead), (q, .sl e' sz' (xs ++ ys))]) s' (.own q) v := by
                intro v w' k1 k2 k3 k4
                obtain ⟨A', c', hv⟩ := k4
                exact ⟨v, w', _, k1, k2, k3, .own q v e' sz' _ (up_same _ _ _) (up_same _ _ _).symm ⟨A', c', by rw [up_same]; exact hv⟩⟩
              rcases Nat.eq_zero_or_pos ys.length with hm | hm
              · have hys0 : ys = [] := List.eq_nil_of_length_eq_zero hm
                subst hys0
                obtain ⟨A', c', hA'⟩ := owns_shape hown
                have hcap : xs.length ≤ c' := by
                  rcases hown.2 with ⟨q1, q2⟩ | ⟨g, cap, cur, q1, _, _, q2, _⟩
                  · omega
                  · rw [hA'] at q1; cases q1; exact q2
                obtain ⟨H, E⟩ := h.of2 hlive hq (.sl e' sz' (xs ++ [])) (s r) rfl rfl rfl (Nat.le_refl _) (fun _ _ _ => rfl) (fun E => by
                  rw [List.append_nil]
                  exact BlkR.of_rows h0 hown (hrows.mono E.z E.w)) (fun g hg => .inr hg)
                exact fin _ _ (by rw [hA']; exact append_zero hu hi hcap) H E ⟨A', c', by rw [hA', List.append_nil]⟩
              · obtain ⟨bb, off, rfl, vs, hvl, hvc, hv1, hvr⟩ := src_cells (w := w) (Z := Z) c3 hA hm
                have hlen : (us ++ vs).length = (xs.length + ys.length) * i.size := by rw [List.length_append, hown.1, hvl, his, Nat.add_mul]
                have hall : RowsR w Z sz' (xs ++ ys) (us ++ vs) := hrows.append hvr
                have hfit : Builtin.nextslicecap (xs.length + ys.length) 0 * i.bytes ≤ 281474976710656 ∨ True := .inr trivial
                have new : ∀ old, old < xs.length + ys.length → ∃ w', w' = w.drew.alloc (.cells (us.toArray ++ vs.toArray ++ Builtin.zeroCells z.cells (grownCap w (xs.length + ys.length) old e' - (xs.length + ys.length))) e') ∧
                    HR F W0 w' (up (up L r .dead) q (.sl e' sz' (xs ++ ys))) (up s q (.slice (some ⟨w.heap.size, 0, none⟩) (xs.length + ys.length) (grownCap w (xs.length + ys.length) old e'))) Z ∧
                    Ext w Z L s w' Z (up (up L r .dead) q (.sl e' sz' (xs ++ ys))) (up s q (.slice (some ⟨w.heap.size, 0, none⟩) (xs.length + ys.length) (grownCap w (xs.length + ys.length) old e'))) := by
                  intro old hold
                  have hge := grownCap_ge w (xs.length + ys.length) old e'
                  have hcm := grownCap_le_maxLen w (xs.length + ys.length) old e' (by unfold maxLen; omega)
                  refine ⟨_, rfl, h.of2 hlive hq _ _ rfl rfl rfl (by simp) (fun b hb _ => Below.heap_alloc w.drew _ b hb) (fun E => BlkR.of_rows h0 ⟨by rw [hlen, List.length_append, his], .inr ⟨w.heap.size, _, _, by rw [List.length_append], Nat.zero_le _, heap_alloc_new w.drew _, by rw [List.length_append]; exact hge, hcm, ?_, ?_⟩⟩ (hall.mono E.z E.w)) (fun g hg => .inl ?_)⟩
                  · simp only [Array.size_append, List.size_toArray, hzc, hown.1, hvl, ← Nat.add_mul]
                    congr 1
                    omega
                  · simp only [Array.toList_append, List.append_assoc]
                    rw [← List.append_assoc, List.length_append, ← his, ← hlen]
                    exact List.take_left
                  · simp [vblk] at hg
                    subst hg
                    simp
                rcases hown.2 with ⟨q1, q2⟩ | ⟨g, cap, cur, q1, _, q3, q4, q5, q6, q7⟩
                · -- nil
                  have hxs : xs = [] := List.eq_nil_of_length_eq_zero q2
                  subst hxs
                  have hus : us = [] := List.eq_nil_of_length_eq_zero (by simpa using hown.1)
                  subst hus
                  obtain ⟨w', rfl, H, E⟩ := new 0 (by simp; omega)
                  simp only [List.length_nil, Nat.zero_add, List.nil_append] at H E c1 c2
                  have hr := run_append_nil (P := P) w T ty e' i z hu hi hz ⟨bb, off, none⟩ ys.length c vs (by rw [hvl, his]) hvc hm (by omega) (by rw [hib]; omega)
                  refine fin _ _ (by rw [q1]; exact hr) ?_ ?_ ⟨_, _, rfl⟩
                  · simpa using H
                  · simpa using E
                · by_cases hroom : xs.length + ys.length ≤ cap
                  · -- in place
                    have hfit2 : xs.length * i.size + vs.length ≤ cur.size := by rw [hvl, q6, his, ← Nat.add_mul]; exact Nat.mul_le_mul_right _ hroom
                    have hr := run_append_room (P := P) w T ty e' i hu hi g xs.length cap cur q3 ⟨bb, off, none⟩ ys.length c vs (by rw [hvl, his]) hvc hv1 hroom hfit2
                    have f1 : (cur.toList.take (xs.length * i.size) ++ vs ++ cur.toList.drop (xs.length * i.size + vs.length)).toArray.size = cap * sz' := by
                      simp only [List.size_toArray, List.length_append, List.length_take, List.length_drop, Array.length_toList]
                      omega
                    have f2 : (cur.toList.take (xs.length * i.size) ++ vs ++ cur.toList.drop (xs.length * i.size + vs.length)).toArray.toList.take ((xs ++ ys).length * sz') = us ++ vs := by
                      rw [his, q7, List.length_append, ← his, ← hlen]
                      exact List.take_left
                    obtain ⟨H, E⟩ := h.of2 (w' := w.setRow g (cur.toList.take (xs.length * i.size) ++ vs ++ cur.toList.drop (xs.length * i.size + vs.length)).toArray) hlive hq (.sl e' sz' (xs ++ ys)) (.slice (some ⟨g, 0, none⟩) (xs.length + ys.length) cap) rfl rfl rfl (by simp) (fun b _ hne => setRow_other w g b _ (hne g (by rw [q1]; rfl))) (fun E => BlkR.of_rows h0 ⟨by rw [hlen, List.length_append, his], .inr ⟨g, cap, _, by rw [List.length_append], Nat.zero_le _, setRow_heap w g cur _ e' _ q3, by rw [List.length_append]; exact hroom, q5, f1, f2⟩⟩ (hall.mono E.z E.w)) (fun g' hg' => .inr (by rw [q1]; exact hg'))
                    exact fin _ _ (by rw [q1]; exact hr) H E ⟨_, _, by rw [List.length_append]⟩
                  · -- it grows
                    have holds : ∀ j u, us[j]? = some u → w.cell? ((⟨g, 0, none⟩ : Addr).add j) = some u := fun j u hu' => by rw [Addr.add_mid, Nat.zero_add]; exact owns_cells hown q1 j u hu'
                    obtain ⟨w', rfl, H, E⟩ := new cap (by omega)
                    have hr := run_append_grow (P := P) w T ty e' i z hu hi hz ⟨g, 0, none⟩ xs.length cap us (by rw [hown.1, his]) holds ⟨bb, off, none⟩ ys.length c vs (by rw [hvl, his]) hvc (by omega) (by omega) (growslice_fits (by omega) (by rw [hib]; omega))
                    exact fin _ _ (by rw [q1]; exact hr) H E ⟨_, _, by rw [List.length_append]⟩
            · cases ho
          · cases ho
        · -- nil
          split at ho
          · rename_i hnil
            simp at ho; subst ho
            obtain ⟨c1, c2, c3⟩ := hc
            cases ha
            have hnil' := nilV_eq hnil
            subst hnil'
            rcases Nat.eq_zero_or_pos ys.length with hm | hm
            · have hys0 : ys = [] := List.eq_nil_of_length_eq_zero hm
              subst hys0
              obtain ⟨H, E, V⟩ := h.slice (r := q) (w' := w) e sz [] (.slice none 0 0) [] h0 (.fresh hq) (World.ownsRow_nil _ _ _ _) ⟨fun r hr => by simp at hr, by simp, fun i j d hd => by simp [rowAt] at hd⟩ (World.grownBy.refl _ none) (fun k hk => by cases hk) (fun g hg => by cases hg) (fun _ _ => rfl)
              exact ⟨_, _, _, append_zero hu hi (Nat.le_refl _), H, E, V⟩
            · obtain ⟨bb, off, rfl, vs, hvl, hvc, hv1, hvr⟩ := src_cells (w := w) (Z := Z) c3 hA hm
              have hr := run_append_nil (P := P) w T ty e i z hu hi hz ⟨bb, off, none⟩ ys.length c vs (by rw [hvl, his]) hvc hm (by omega) (by rw [hib]; omega)
              have hge := grownCap_ge w ys.length 0 e
              have hcm := grownCap_le_maxLen w ys.length 0 e (by unfold maxLen; omega)
              obtain ⟨H, E, V⟩ := h.laid hq (e := e) (sz := sz) (n := ys.length) (cap := grownCap w ys.length 0 e) (rows := ys) (cur := vs.toArray ++ Builtin.zeroCells z.cells (grownCap w ys.length 0 e - ys.length)) (w1 := w.drew) rfl rfl rfl rfl h0 rfl hge hcm (by
                simp only [Array.size_append, List.size_toArray, hzc, hvl, ← Nat.add_mul]
                congr 1
                omega) (xs := vs) (by
                simp only [Array.toList_append]
                rw [← hvl]
                exact List.take_left) hvr
              exact ⟨_, _, _, hr, H, E, V⟩
          · cases ho
        · cases ho
      · cases ho
    · cases ho
  · cases ho
end
end Go.Proofs.Ytpompkogpdnlcaa
