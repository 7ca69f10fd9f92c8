import Derived.Test.YtpompkogpdnlcaaRk
namespace Go.Proofs.Ytpompkogpdnlcaa
open Go.RowKit

section
variable {P : Program} {w : World} {Z : Nat → Prop} {L : Nat → Blk} {s : Nat → Value} {F : Nat → Prop} {W0 : Ent}

theorem dk_v {k : CK} {x : Value} {d : D} (h : dk L k (.v x) = some d) (ho : x.oneCell' = true) : Rep w Z d x := by
  generalize hx : AV.v x = a at h
  unfold dk at h
  split at h
  · cases hx
    split at h
    · rename_i hnil; simp at h; subst h; rw [nilV_eq hnil]; exact .e _ _ _
    · cases h
  · cases hx; simp at h; subst h; exact .v _ ho
  all_goals first | (cases hx; done) | cases h

theorem oMake_ok (h : HR F W0 w L s Z) {T : TypeId} {q : Nat} (hq : L q = .none) {a b : AV} {x y : Value} (ha : AVR w Z L s a x) (hb : AVR w Z L s b y) {out : Out} (ho : oMake P T a b q = some out) (hc : out.c) :
    ∃ v w' s', (Instr.makeSlice T x y).run P w = .ok v w' ∧ HR F W0 w' (ups L out.ups) s' Z ∧ Ext w Z L s w' Z (ups L out.ups) s' ∧ AVR w' Z (ups L out.ups) s' out.dst v := by
  unfold oMake at ho
  split at ho
  · rename_i e k1 n k2 c hu
    split at ho
    · rename_i z sz by_ hinf
      obtain ⟨i, hi, hz, his, hib⟩ := inf_info hinf
      split at ho
      · rename_i hh
        obtain ⟨h0, hzs, hone⟩ := hh
        split at ho
        · rename_i row hrow
          simp at ho; subst ho
          obtain ⟨c1, c2, c3, c4⟩ := hc
          cases ha
          cases hb
          have hzero := zeros_rel (L := fun _ => Blk.none) (s := s) (Z := Z) (w := w) hone
          have hrun := run_make (P := P) w T e i z hu hi hz k1 k2 n c c1 c2 (by rw [hib, Int.mul_comm]; omega) (by omega)
          have hrr : RowsR w Z sz (List.replicate n.toNat row) ((madeCells z.cells (c.toNat * sz)).toList.take (n.toNat * sz)) := by
            have hd : ∀ (ks : List CK) (xs : List Value) (ds : List D), dks (fun _ => .none) ks (xs.map .v) = some ds → xs.all (·.oneCell') = true → ds.length = xs.length ∧ ∀ (j : Nat) d, ds[j]? = some d → ∃ u, xs[j]? = some u ∧ Rep w Z d u := by
              intro ks
              induction ks with
              | nil =>
                intro xs ds h1 _
                cases xs with
                | nil => simp [dks] at h1; subst h1; exact ⟨rfl, fun j d h => by simp at h⟩
                | cons x xs => simp [dks] at h1
              | cons k ks ih =>
                intro xs ds h1 h2
                cases xs with
                | nil => simp [dks] at h1
                | cons x xs =>
                  simp only [List.map_cons, dks] at h1
                  split at h1
                  · rename_i d ds' e1 e2
                    simp at h1; subst h1
                    simp only [List.all_cons, Bool.and_eq_true] at h2
                    obtain ⟨l1, l2⟩ := ih xs ds' e2 h2.2
                    refine ⟨by simp [l1], fun j dd hj => ?_⟩
                    cases j with
                    | zero =>
                      simp at hj; subst hj
                      refine ⟨x, rfl, ?_⟩
                      exact dk_v e1 h2.1
                    | succ j => obtain ⟨u, g1, g2⟩ := l2 j dd (by simpa using hj); exact ⟨u, by simpa using g1, g2⟩
                  · cases h1
            obtain ⟨d1, d2⟩ := hd _ _ _ hrow hone
            have hrl : row.length = sz := by rw [d1, ← hzs]; simp
            have hle : n.toNat * sz ≤ c.toNat * sz := Nat.mul_le_mul_right _ (by omega)
            refine ⟨fun r hr => ?_, ?_, fun i' j d hd' => ?_⟩
            · obtain ⟨_, rfl⟩ := List.mem_replicate.1 hr; exact hrl
            · rw [List.length_take, List.length_replicate, show (madeCells z.cells (c.toNat * sz)).toList.length = c.toNat * sz by simp [madeCells]]; omega
            · unfold rowAt at hd'
              rw [List.getElem?_replicate] at hd'
              split at hd'
              · rename_i hi'
                simp at hd'
                obtain ⟨u, g1, g2⟩ := d2 j d hd'
                have hj : j < sz := by rw [← hrl]; exact (List.getElem?_eq_some_iff.1 hd').1
                have hlt := mul_lt_of hi' hj
                have hmod : (i' * sz + j) % z.cells.size = j := by rw [hzs, Nat.add_comm, Nat.add_mul_mod_self_right, Nat.mod_eq_of_lt hj]
                refine ⟨u, ?_, g2⟩
                rw [List.getElem?_take, if_pos hlt]
                rcases madeCells_get z.cells (c.toNat * sz) (i' * sz + j) (by omega) with h | h
                · rw [h, hmod, ← g1]; simp
                · omega
              · simp at hd'
          obtain ⟨a1, a2, a3⟩ := h.laid hq (e := e) (sz := sz) (n := n.toNat) (cap := c.toNat) (rows := List.replicate n.toNat row) (cur := madeCells z.cells (c.toNat * sz)) (w1 := w) rfl rfl rfl rfl h0 (by simp) (by omega) (by unfold maxLen; omega) (by simp [madeCells]) rfl hrr
          rw [his] at hrun
          exact ⟨_, _, _, hrun, a1, a2, a3⟩
        · cases ho
      · cases ho
    · cases ho
  · cases ho

/-- the cells of the rows that are appended -/
theorem src_cells {rows : List (List D)} {A : Option Addr} {sz : Nat} (hs : ∀ r ∈ rows, r.length = sz)
    (hA : 0 < rows.length → ∃ sz b off, A = some ⟨b, off, none⟩ ∧ b < w.heap.size ∧ (∀ r ∈ rows, r.length = sz) ∧ ∀ i j d, rowAt rows i j = some d → ∃ u, w.cell? ⟨b, off + (i * sz + j), none⟩ = some u ∧ Rep w Z d u) (h0 : 0 < rows.length) :
    ∃ b off, A = some ⟨b, off, none⟩ ∧ ∃ us : List Value, us.length = rows.length * sz ∧ (∀ j u, us[j]? = some u → w.cell? ((⟨b, off, none⟩ : Addr).add j) = some u) ∧ (∀ u ∈ us, u.oneCell' = true) ∧ RowsR w Z sz rows us := by
  obtain ⟨sz', b, off, rfl, hb, hs', hc⟩ := hA h0
  have hsz : sz' = sz := by
    have h1 := hs _ (List.getElem_mem h0)
    have h2 := hs' _ (List.getElem_mem h0)
    omega
  subst hsz
  refine ⟨b, off, rfl, (List.range (rows.length * sz')).map fun m => (w.cell? ⟨b, off + m, none⟩).getD undef, by simp, fun j u hu => ?_, fun u hu => ?_, hs, by simp, fun i j d hd => ?_⟩
  · rw [List.getElem?_map] at hu
    have hj : j < rows.length * sz' := by
      rcases Nat.lt_or_ge j (rows.length * sz') with h | h
      · exact h
      · rw [List.getElem?_eq_none (by simpa using h)] at hu; cases hu
    rw [List.getElem?_range hj] at hu
    simp at hu
    have hp : 0 < sz' := by rcases Nat.eq_zero_or_pos sz' with h | h; · subst h; simp at hj
                            · exact h
    have hd : rowAt rows (j / sz') (j % sz') = some ((rows[j / sz']'(by exact (Nat.div_lt_iff_lt_mul hp).2 hj))[j % sz']'(by rw [hs _ (List.getElem_mem _)]; exact Nat.mod_lt _ hp)) := by
      unfold rowAt
      rw [List.getElem?_eq_getElem ((Nat.div_lt_iff_lt_mul hp).2 hj)]
      simp
    obtain ⟨u', h1, h2⟩ := hc _ _ _ hd
    rw [Nat.mul_comm, Nat.div_add_mod] at h1
    rw [Addr.add_mid, ← hu, h1]; rfl
  · obtain ⟨m, hm, rfl⟩ := List.mem_map.1 hu
    have hj : m < rows.length * sz' := by simpa using hm
    have hp : 0 < sz' := by rcases Nat.eq_zero_or_pos sz' with h | h; · subst h; simp at hj
                            · exact h
    have hd : rowAt rows (m / sz') (m % sz') = some ((rows[m / sz']'(by exact (Nat.div_lt_iff_lt_mul hp).2 hj))[m % sz']'(by rw [hs _ (List.getElem_mem _)]; exact Nat.mod_lt _ hp)) := by
      unfold rowAt
      rw [List.getElem?_eq_getElem ((Nat.div_lt_iff_lt_mul hp).2 hj)]
      simp
    obtain ⟨u', h1, h2⟩ := hc _ _ _ hd
    rw [Nat.mul_comm, Nat.div_add_mod] at h1
    rw [h1]
    exact h2.one
  · obtain ⟨u, h1, h2⟩ := hc i j d hd
    have hi : i < rows.length := by
      unfold rowAt at hd
      cases hr : rows[i]? with
      | none => simp [hr] at hd
      | some r => exact (List.getElem?_eq_some_iff.1 hr).1
    have hj : j < sz' := by
      unfold rowAt at hd
      rw [List.getElem?_eq_getElem hi] at hd
      simp at hd
      have := (List.getElem?_eq_some_iff.1 hd).1
      rw [hs _ (List.getElem_mem hi)] at this
      exact this
    exact ⟨u, by rw [List.getElem?_map, List.getElem?_range (mul_lt_of hi hj)]; simp [h1], h2⟩

theorem RowsR.append {sz : Nat} {xs ys : List (List D)} {us vs : List Value} (h : RowsR w Z sz xs us) (k : RowsR w Z sz ys vs) : RowsR w Z sz (xs ++ ys) (us ++ vs) := by
  obtain ⟨h1, h2, h3⟩ := h
  obtain ⟨k1, k2, k3⟩ := k
  refine ⟨fun r hr => (List.mem_append.1 hr).elim (h1 r) (k1 r), by rw [List.length_append, List.length_append, Nat.add_mul, h2, k2], fun i j d hd => ?_⟩
  unfold rowAt at hd
  by_cases hi : i < xs.length
  · rw [List.getElem?_append_left hi] at hd
    obtain ⟨u, g1, g2⟩ := h3 i j d hd
    exact ⟨u, by rw [List.getElem?_append_left (List.getElem?_eq_some_iff.1 g1).1]; exact g1, g2⟩
  · rw [List.getElem?_append_right (by omega)] at hd
    obtain ⟨u, g1, g2⟩ := k3 (i - xs.length) j d hd
    refine ⟨u, ?_, g2⟩
    have e : i * sz + j = us.length + ((i - xs.length) * sz + j) := by
      rw [h2, ← Nat.add_assoc, ← Nat.add_mul]
      congr 2
      omega
    rw [e, List.getElem?_append_right (by omega), Nat.add_sub_cancel_left]
    exact g1
end
end Go.Proofs.Ytpompkogpdnlcaa
