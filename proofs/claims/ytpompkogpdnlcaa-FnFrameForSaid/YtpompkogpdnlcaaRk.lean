import Derived.Test.YtpompkogpdnlcaaRj
namespace Go.Proofs.Ytpompkogpdnlcaa
open Go.RowKit

section
variable {P : Program} {w : World} {Z : Nat → Prop} {L : Nat → Blk} {s : Nat → Value} {F : Nat → Prop} {W0 : Ent}

/-- rows of cells, and what they are in the model -/
def RRel (w : World) (Z : Nat → Prop) (L : Nat → Blk) (s : Nat → Value) (sz : Nat) (rows : List (List AV)) (vs : List Value) : Prop :=
  (∀ r ∈ rows, r.length = sz ∧ r.all AV.one = true) ∧ vs.length = rows.length * sz ∧ ∀ (i j : Nat) x, (rows[i]?).bind (·[j]?) = some x → ∃ y, vs[i * sz + j]? = some y ∧ AVR w Z L s x y ∧ y.oneCell' = true

theorem RRel.put {sz : Nat} {rows : List (List AV)} {vs : List Value} (h : RRel w Z L s sz rows vs) {i : Nat} (hi : i < rows.length) {xs : List AV} {us : List Value} (k : CRel w Z L s xs us) (hl : xs.length = sz) (hone : xs.all AV.one = true) :
    RRel w Z L s sz (rows.set i xs) (putAt vs (i * sz) us) := by
  obtain ⟨h1, h2, h3⟩ := h
  obtain ⟨k1, k2⟩ := k
  have hfit : i * sz + us.length ≤ vs.length := by
    have := Nat.mul_le_mul_right sz (show i + 1 ≤ rows.length from hi)
    rw [Nat.succ_mul] at this
    omega
  refine ⟨fun r hr => ?_, by rw [putAt_len hfit, List.length_set, h2], fun i' j' x hx => ?_⟩
  · rcases List.mem_or_eq_of_mem_set hr with hr | rfl
    · exact h1 r hr
    · exact ⟨hl, hone⟩
  · rw [putAt_get hfit]
    by_cases e : i' = i
    · subst e
      rw [List.getElem?_set_self hi] at hx
      simp only [Option.bind_some] at hx
      have hj := (List.getElem?_eq_some_iff.1 hx).1
      rw [if_pos (by omega)]
      have hy : us[j']? = some us[j'] := List.getElem?_eq_getElem (by omega)
      exact ⟨us[j'], by rw [← hy]; congr 1; omega, k2 j' x _ hx hy⟩
    · rw [List.getElem?_set_ne (fun h => e h.symm)] at hx
      have hj' : j' < sz := by
        cases hr : rows[i']? with
        | none => simp [hr] at hx
        | some r =>
          simp [hr] at hx
          have := (List.getElem?_eq_some_iff.1 hx).1
          rw [(h1 r (List.mem_of_getElem? hr)).1] at this
          exact this
      have := row_apart (i := i) (j := 0) (m := sz) e hj' (by omega)
      rw [if_neg (by omega)]
      exact h3 i' j' x hx

theorem fillR_ok {sz : Nat} {place : Nat → Option (Nat × Nat)} (hpl : ∀ i, place i = some (i * sz, sz)) :
    ∀ {ps : List (Nat × AV)} {qs : List (Nat × Value)} {rows rows' : List (List AV)} {vs : List Value}, PRel w Z L s ps qs → RRel w Z L s sz rows vs → fillR sz rows ps = some rows' → ∃ vs', Instr.fill place vs.toArray qs = some vs'.toArray ∧ RRel w Z L s sz rows' vs' ∧ rows'.length = rows.length
  | [], [], rows, rows', vs, _, hc, h => by
    simp [fillR] at h; subst h
    exact ⟨vs, rfl, hc, rfl⟩
  | (i, a) :: ps, (j, x) :: qs, rows, rows', vs, hp, hc, h => by
    obtain ⟨rfl, ha, hr⟩ := hp
    simp only [fillR] at h
    split at h
    · rename_i hh
      obtain ⟨h1, h2, h3⟩ := hh
      obtain ⟨us, hx, hul, hcu⟩ := ha.cellsOf h3
      have hcl := hc.2.1
      have := Nat.mul_le_mul_right sz (show i + 1 ≤ rows.length from h2)
      rw [Nat.succ_mul] at this
      rw [fillPut_step x (i * sz) sz vs.toArray place i qs (hpl i) (by rw [hx]; simp; omega) (by rw [hx]; simp; omega), hx]
      obtain ⟨vs', q1, q2, q3⟩ := fillR_ok hpl hr (hc.put h2 ⟨hul, hcu⟩ h1 h3) h
      exact ⟨vs', q1, q2, by rw [q3, List.length_set]⟩
    · cases h
  | [], _ :: _, _, _, _, h, _, _ => h.elim
  | _ :: _, [], _, _, _, h, _, _ => h.elim

theorem RRel.mono {w' : World} {Z' : Nat → Prop} {L' : Nat → Blk} {s' : Nat → Value} {sz : Nat} {rows : List (List AV)} {vs : List Value} (h : RRel w Z L s sz rows vs) (E : Ext w Z L s w' Z' L' s') : RRel w' Z' L' s' sz rows vs :=
  ⟨h.1, h.2.1, fun i j x hx => by obtain ⟨y, h1, h2, h3⟩ := h.2.2 i j x hx; exact ⟨y, h1, h2.mono E, h3⟩⟩

theorem dkRows_ok (h : HR F W0 w L s Z) {ks : List CK} {sz : Nat} : ∀ {rows : List (List AV)} {ds : List (List D)} {vs : List Value}, RRel w Z L s sz rows vs → dkRows L ks rows = some ds → RowsR w Z sz ds vs ∧ ds.length = rows.length
  | [], ds, vs, hr, hd => by
    simp [dkRows] at hd; subst hd
    exact ⟨⟨fun r h => by simp at h, by simpa using hr.2.1, fun i j d h => by simp [rowAt] at h⟩, rfl⟩
  | r :: rows, ds, vs, hr, hd => by
    obtain ⟨h1, h2, h3⟩ := hr
    simp only [dkRows] at hd
    split at hd
    · rename_i d ds' e1 e2
      simp at hd; subst hd
      obtain ⟨r1, r2⟩ := h1 r (by simp)
      have hvl : sz ≤ vs.length := by rw [h2]; simp [Nat.succ_mul]
      obtain ⟨l1, l2⟩ := dks_ok h e1 (ys := vs.take sz) (by rw [List.length_take]; omega) (fun i x y hx hy => by
        obtain ⟨y', g1, g2, g3⟩ := h3 0 i x (by simpa using hx)
        rw [List.getElem?_take] at hy
        split at hy
        · rw [Nat.zero_mul, Nat.zero_add, hy] at g1; cases g1; exact ⟨g2, g3⟩
        · cases hy) r2
      obtain ⟨q, q4⟩ := dkRows_ok h (rows := rows) (ds := ds') (vs := vs.drop sz) ⟨fun r hr => h1 r (by simp [hr]), by rw [List.length_drop, h2]; simp [Nat.succ_mul], fun i j x hx => by
        obtain ⟨y', g1, g2, g3⟩ := h3 (i + 1) j x (by simpa using hx)
        exact ⟨y', by rw [List.getElem?_drop, ← g1]; congr 1; rw [Nat.succ_mul]; omega, g2, g3⟩⟩ e2
      obtain ⟨q1, q2, q3⟩ := q
      refine ⟨⟨fun x hx => ?_, by rw [h2]; simp [q4], fun i j dd hdd => ?_⟩, by simp [q4]⟩
      · rcases List.mem_cons.1 hx with rfl | hx
        · rw [l1, r1]
        · exact q1 x hx
      · cases i with
        | zero =>
          simp [rowAt] at hdd
          obtain ⟨y, g1, g2⟩ := l2 j dd hdd
          rw [List.getElem?_take] at g1
          split at g1
          · exact ⟨y, by simpa using g1, g2⟩
          · cases g1
        | succ i =>
          obtain ⟨y, g1, g2⟩ := q3 i j dd (by simpa [rowAt] using hdd)
          rw [List.getElem?_drop] at g1
          exact ⟨y, by rw [← g1]; congr 1; rw [Nat.succ_mul]; omega, g2⟩
    · cases hd

theorem madeCells_get (z : Array Value) (k m : Nat) (hm : m < k) : (madeCells z k).toList[m]? = z[m % z.size]? ∨ z.size = 0 := by
  by_cases hz : z.size = 0
  · exact .inr hz
  · left
    have hlt : m % z.size < z.size := Nat.mod_lt _ (by omega)
    simp [madeCells, hm, hlt]

theorem mul_lt_of {i j n sz : Nat} (hi : i < n) (hj : j < sz) : i * sz + j < n * sz := by
  have := Nat.mul_le_mul_right sz (show i + 1 ≤ n from hi)
  rw [Nat.succ_mul] at this
  omega

theorem made_rel {z : Value} (hone : z.cells.toList.all (·.oneCell') = true) {sz n : Nat} (h0 : 0 < sz) (hz : z.cells.size = sz) : RRel w Z L s sz (List.replicate n (z.cells.toList.map .v)) (madeCells z.cells (n * sz)).toList := by
  refine ⟨fun r hr => ?_, by simp [madeCells], fun i j x hx => ?_⟩
  · obtain ⟨_, rfl⟩ := List.mem_replicate.1 hr
    refine ⟨by simp [hz], ?_⟩
    rw [List.all_map]
    exact hone
  · rw [List.getElem?_replicate] at hx
    split at hx
    · rename_i hi
      simp only [Option.bind_some, List.getElem?_map] at hx
      cases hy : z.cells.toList[j]? with
      | none => simp [hy] at hx
      | some y =>
        simp [hy] at hx; subst hx
        have hj : j < sz := by rw [← hz, ← Array.length_toList]; exact (List.getElem?_eq_some_iff.1 hy).1
        have hmod : (i * sz + j) % z.cells.size = j := by rw [hz, Nat.add_comm, Nat.add_mul_mod_self_right, Nat.mod_eq_of_lt hj]
        refine ⟨y, ?_, .v y, List.all_eq_true.1 hone y (List.mem_of_getElem? hy)⟩
        rcases madeCells_get z.cells (n * sz) (i * sz + j) (mul_lt_of hi hj) with h | h
        · rw [h, hmod, ← hy]; simp
        · omega
    · cases hx

/-- a new slice, laid at the end -/
theorem HR.laid (h : HR F W0 w L s Z) {q : Nat} (hq : L q = .none) {e : TypeId} {sz n cap : Nat} {rows : List (List D)} {cur : Array Value} {w1 : World} (h1 : w1.heap = w.heap) (ho : w1.os = w.os) (ht : w1.tape = w.tape) (hpp : w1.output = w.output) (hsz : 0 < sz) (hn : rows.length = n) (hc : n ≤ cap) (hm : cap ≤ maxLen) (hcs : cur.size = cap * sz) {xs : List Value} (hx : cur.toList.take (n * sz) = xs) (hr : RowsR w Z sz rows xs) :
    HR F W0 (w1.alloc (.cells cur e)) (up L q (.sl e sz rows)) (up s q (.slice (some ⟨w.heap.size, 0, none⟩) n cap)) Z ∧
    Ext w Z L s (w1.alloc (.cells cur e)) Z (up L q (.sl e sz rows)) (up s q (.slice (some ⟨w.heap.size, 0, none⟩) n cap)) ∧
    AVR (w1.alloc (.cells cur e)) Z (up L q (.sl e sz rows)) (up s q (.slice (some ⟨w.heap.size, 0, none⟩) n cap)) (.own q) (.slice (some ⟨w.heap.size, 0, none⟩) n cap) := by
  subst hn
  have hsz1 : w1.heap.size = w.heap.size := by rw [h1]
  have hold : ∀ b, b < w.heap.size → (w1.alloc (.cells cur e)).heap[b]? = w.heap[b]? := fun b hb => by rw [Below.heap_alloc w1 _ b (by omega), h1]
  have hnew : (w1.alloc (.cells cur e)).heap[w.heap.size]? = some (.cells cur e (0, 0)) := by rw [← hsz1]; exact heap_alloc_new w1 _
  refine h.slice e sz rows _ xs hsz (.fresh hq) ⟨by rw [hr.2.1], .inr ⟨w.heap.size, cap, cur, rfl, Nat.zero_le _, hnew, hc, hm, hcs, hx⟩⟩ hr (row := none) ⟨ho, ht, hpp, by simp; omega, fun k hk _ => hold k hk⟩ (fun k hk => by cases hk) (fun g hg => .inl ?_) (fun b hb => hold b (h.zin b hb))
  simp [vblk] at hg
  subst hg
  simp; omega

theorem inf_info {t : TypeId} {z : Value} {n b : Nat} (h : inf P t = some (some z, n, b)) : ∃ i, P.info? t = some i ∧ i.zero = some z ∧ i.size = n ∧ i.bytes = b := by
  unfold inf at h
  cases hi : P.info? t with
  | none => simp [hi] at h
  | some i => simp [hi] at h; exact ⟨i, rfl, h⟩

theorem oBuildSlice_ok (h : HR F W0 w L s Z) {T : TypeId} {n q : Nat} (hq : L q = .none) {ps : List (Nat × AV)} {qs : List (Nat × Value)} (hp : PRel w Z L s ps qs) {out : Out} (ho : oBuildSlice P L T n ps q = some out) :
    ∃ v w' s' Z', (Instr.buildSlice T n qs.toArray).run P w = .ok v w' ∧ HR F W0 w' (ups L out.ups) s' Z' ∧ Ext w Z L s w' Z' (ups L out.ups) s' ∧ AVR w' Z' (ups L out.ups) s' out.dst v := by
  unfold oBuildSlice at ho
  split at ho
  · rename_i e hu
    split at ho
    · rename_i z sz by_ hinf
      obtain ⟨i, hi, hz, his, _⟩ := inf_info hinf
      split at ho
      · rename_i hh
        obtain ⟨h0, hzs, hlim, hone⟩ := hh
        split at ho
        · rename_i rows hfill
          split at ho
          · rename_i ds hds
            simp at ho; subst ho
            obtain ⟨vs, r1, r2, r3⟩ := fillR_ok (place := fun i => some (i * sz, sz)) (fun _ => rfl) hp (made_rel (L := L) (s := s) (Z := Z) (w := w) hone (n := n) h0 hzs) hfill
            obtain ⟨Z1, H1, E1, hF⟩ := h.frz (L0 := L) rows.flatten (fun r => .inl rfl)
            obtain ⟨rr, rl⟩ := dkRows_ok H1 (r2.mono E1) hds
            have hq1 : ups L (frz L rows.flatten) q = .none := by
              rcases hF q with h1 | ⟨_, _, _, h1, _⟩
              · rw [h1, hq]
              · rw [hq] at h1; cases h1
            simp at r3
            have hlen : vs.length = n * sz := by rw [r2.2.1, r3]
            obtain ⟨a1, a2, a3⟩ := H1.laid hq1 (e := e) (sz := sz) (n := n) (cap := n) (rows := ds) (cur := vs.toArray) (w1 := w) rfl rfl rfl rfl h0 (by omega) (Nat.le_refl _) (by
              have : n ≤ n * sz := Nat.le_mul_of_pos_right n h0
              unfold maxLen; omega) (by simp [hlen]) (xs := vs) (List.take_of_length_le (by simp; omega)) rr
            refine ⟨_, _, _, Z1, ?_, by rw [ups_append]; exact a1, by rw [ups_append]; exact E1.trans a2, by rw [ups_append]; exact a3⟩
            simp only [Array.toArray_toList] at r1
            by_cases hn : n * sz = 0
            · have hvs : vs = [] := List.eq_nil_of_length_eq_zero (by omega)
              have hmz : madeCells z.cells (n * sz) = #[] := by simp [madeCells, hn]
              rw [hmz] at r1
              have e0 : Array.map (fun _ => (default : Value)) (Array.range 0) = #[] := by simp
              simp [Instr.buildSlice, run_underlying hu, sizeOf, typeInfo, hi, his, hn, e0, r1, newRow, newObj, Sem.run]
            · have hm : ¬ n * sz > 16777216 := by omega
              have r1' : Instr.fill (fun i => some (i * sz, sz)) ((Array.range (n * sz)).map fun x => z.cells[x % z.cells.size]!) qs = some vs.toArray := r1
              simp [Instr.buildSlice, run_underlying hu, sizeOf, typeInfo, zeroValue, hi, his, hz, hn, hm, r1', newRow, newObj, Sem.run]
          · cases ho
        · cases ho
      · cases ho
    · cases ho
  · cases ho
end
end Go.Proofs.Ytpompkogpdnlcaa
