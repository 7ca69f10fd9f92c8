import Derived.Test.YtkfjaeoehhakpaaR5
import Derived.ChangeArms
import Derived.OpenShut
namespace Go.Proofs.Ytkfjaeoehhakpaa
open Go.RowKit
section
variable {P : Program} {w : World} {Z : Nat → Prop} {L : Nat → Blk} {s : Nat → Value} {F : Nat → Prop} {W0 : Ent}
end
end Go.Proofs.Ytkfjaeoehhakpaa
namespace Go.Proofs.Ytkfjaeoehhakpaa
open Go.RowKit
section
variable {P : Program} {w : World} {Z : Nat → Prop} {L : Nat → Blk} {s : Nat → Value} {F : Nat → Prop} {W0 : Ent}
theorem HR.only (h : HR F W0 w L s Z) {L' : Nat → Blk} (hh : ∀ r, L' r = .none ∨ (L' r = L r ∧ ∃ T cs, L r = .var T cs ∧ AV.ids.idsL cs = [])) : HR F W0 w L' s Z := by
  have lv : ∀ r, (L' r).live → (L r).live := fun r hr => by
    rcases hh r with e | ⟨e, _⟩
    · rw [e] at hr; exact hr.elim
    · rw [← e]; exact hr
  have lf : ∀ r g, (L' r).live → Fp w (L' r) (s r) g → Fp w (L r) (s r) g := fun r g hr hg => by
    rcases hh r with e | ⟨e, _⟩
    · rw [e] at hr; exact hr.elim
    · rw [← e]; exact hg
  refine ⟨fun r => ?_, fun r r' g l1 l2 g1 g2 => h.sepF r r' g (lv r l1) (lv r' l2) (lf r g l1 g1) (lf r' g l2 g2), fun r g l1 g1 => h.nzF r g (lv r l1) (lf r g l1 g1), fun r g l1 g1 => h.mineF r g (lv r l1) (lf r g l1 g1), h.zin, h.kept, h.zsrc, h.zhas⟩
  rcases hh r with e | ⟨e, T, cs, e2, hi⟩
  · rw [e]; trivial
  · rw [e]
    have := h.blk r
    rw [e2] at this ⊢
    obtain ⟨g, vs, h1, h2, h3, h4⟩ := this
    refine ⟨g, vs, h1, h2, h3, fun i x y hx hy => ⟨(h4 i x y hx hy).1.noids ?_, (h4 i x y hx hy).2⟩⟩
    rw [List.eq_nil_iff_forall_not_mem]
    intro k hk
    have : k ∈ AV.ids.idsL cs := (memL _ _).2 ⟨x, List.mem_of_getElem? hx, hk⟩
    rw [hi] at this
    cases this
end
end Go.Proofs.Ytkfjaeoehhakpaa
namespace Go.Proofs.Ytkfjaeoehhakpaa
open Go.RowKit
inductive KD where
  | int (k : IntKind)
  | bool
  | str
  | sl (row : List KD)
inductive WT : KD → D → Prop
  | int (k : IntKind) (n : Int) (h : (Lit.int k n).wf = true) : WT (.int k) (.v (.int k n))
  | bool (b : Bool) : WT .bool (.v (.bool b))
  | str (x : ByteArray) : WT .str (.v (.string x))
  | sl (row : List KD) (rows : List (List D)) (hn : rows.length ≤ maxLen) (hl : ∀ r ∈ rows, r.length = row.length) (h : ∀ i j k d, row[j]? = some k → rowAt rows i j = some d → WT k d) : WT (.sl row) (.l row.length rows)
def kindsF (P : Program) (g : TypeId → Option (List KD)) : Nat → List Field → Option (List KD)
  | _, [] => some []
  | off, f :: fs => if f.offset = off then match g f.type with
      | some ks => if ks.length = P.cellsOf f.type then match kindsF P g (off + ks.length) fs with
        | some r => some (ks ++ r)
        | none => none else none
      | none => none
    else none
def kinds (P : Program) : Nat → TypeId → Option (List KD)
  | 0, _ => none
  | n + 1, t => match P.underlying t with
    | some (.int k) => some [.int k]
    | some .bool => some [.bool]
    | some .string => some [.str]
    | some (.slice e) => match kinds P n e with
      | some row => if row.length = P.cellsOf e ∧ 0 < row.length then some [.sl row] else none
      | none => none
    | some (.struct fs) => match kindsF P (kinds P n) 0 fs.toList with
      | some ks => if ks.length = P.cellsOf t then some ks else none
      | none => none
    | _ => none
section
variable {P : Program} {w : World} {H : Type} {enc : TypeId × Value → H} {spare : Nat → Bool} {held : Bool}
structure Reads (w : World) (ks : List KD) (ds : List D) (cs : List Value) : Prop where
  dl : ds.length = ks.length
  cl : cs.length = ks.length
  wt : ∀ (j : Nat) k d, ks[j]? = some k → ds[j]? = some d → WT k d
  rep : ∀ (j : Nat) d c, ds[j]? = some d → cs[j]? = some c → Rep w (Zold w) d c
theorem Reads.app {ks ks' : List KD} {ds ds' : List D} {cs cs' : List Value} (h : Reads w ks ds cs) (h' : Reads w ks' ds' cs') : Reads w (ks ++ ks') (ds ++ ds') (cs ++ cs') := by
  refine ⟨by simp [h.dl, h'.dl], by simp [h.cl, h'.cl], fun j k d h1 h2 => ?_, fun j d c h1 h2 => ?_⟩
  · by_cases hj : j < ks.length
    · rw [List.getElem?_append_left hj] at h1
      rw [List.getElem?_append_left (by rw [h.dl]; exact hj)] at h2
      exact h.wt j k d h1 h2
    · rw [List.getElem?_append_right (by omega)] at h1
      rw [List.getElem?_append_right (by rw [h.dl]; omega), h.dl] at h2
      exact h'.wt _ k d h1 h2
  · by_cases hj : j < ks.length
    · rw [List.getElem?_append_left (by rw [h.dl]; exact hj)] at h1
      rw [List.getElem?_append_left (by rw [h.cl]; exact hj)] at h2
      exact h.rep j d c h1 h2
    · rw [List.getElem?_append_right (by rw [h.dl]; omega), h.dl] at h1
      rw [List.getElem?_append_right (by rw [h.cl]; omega), h.cl] at h2
      exact h'.rep _ d c h1 h2
theorem Reads.one {k : KD} {d : D} {c : Value} (h : WT k d) (hr : Rep w (Zold w) d c) : Reads w [k] [d] [c] :=
  ⟨rfl, rfl, fun j k' d' h1 h2 => by
    cases j with
    | zero => simp at h1 h2; subst h1; subst h2; exact h
    | succ j => simp at h1, fun j d' c' h1 h2 => by
    cases j with
    | zero => simp at h1 h2; subst h1; subst h2; exact hr
    | succ j => simp at h1⟩
theorem cells_at {b off m : Nat} {cs : List Value} (h : w.cells? 0 ⟨b, off, none⟩ m = some cs) : cs.length = m ∧ ∀ j c, cs[j]? = some c → w.cell? ⟨b, off + j, none⟩ = some c := by
  unfold World.cells? at h
  rw [if_pos (Nat.zero_le _)] at h
  have hl := mapM_some_length h
  refine ⟨by simpa using hl, fun j c hc => ?_⟩
  have hj : j < m := by have := (List.getElem?_eq_some_iff.1 hc).1; simp at hl; omega
  have := mapM_some_get h j j (by simp [hj])
  rw [Addr.add_mid] at this
  rw [this, hc]
theorem trod_reads : ∀ (fuel : Nat) (t : TypeId) (cs : List Value) (x : DataW H × List MemPlace) (n : Nat) (ks : List KD), DataW.trod enc P w 0 spare held fuel t cs = some x → kinds P n t = some ks → ∃ ds, Reads w ks ds cs := by
  intro fuel
  induction fuel with
  | zero => intro t cs x n ks h; simp [DataW.trod] at h
  | succ fuel ih =>
    intro t cs x n ks h hk
    cases n with
    | zero => simp [kinds] at hk
    | succ n =>
      unfold kinds at hk
      split at hk
      · rename_i k hu
        cases hk
        obtain ⟨m, rfl, _, hw⟩ := DataW.trod_int hu h
        exact ⟨_, Reads.one (.int k m hw) (.v _ rfl)⟩
      · rename_i hu
        cases hk
        obtain ⟨b, rfl, _⟩ := DataW.trod_bool hu h
        exact ⟨_, Reads.one (.bool b) (.v _ rfl)⟩
      · rename_i hu
        cases hk
        obtain ⟨b, rfl, _⟩ := DataW.trod_string hu h
        exact ⟨_, Reads.one (.str b) (.v _ rfl)⟩
      · rename_i e hu
        split at hk
        · rename_i row hrow
          split at hk
          · rename_i hlen
            cases hk
            obtain ⟨hl1, hl2⟩ := hlen
            rcases DataW.trod_slice hu h with ⟨rfl, _⟩ | ⟨a, len, cap, elems, rest, m, hm, rfl, _, hb, hlc, hcm, hel, helem, _, _⟩
            · exact ⟨_, Reads.one (.sl row [] (Nat.zero_le _) (fun r hr => by cases hr) fun i j k d _ hd => by simp [rowAt] at hd) (.e _ _ _)⟩
            · cases hm
              by_cases h0 : len = 0
              · subst h0
                exact ⟨_, Reads.one (.sl row [] (Nat.zero_le _) (fun r hr => by cases hr) fun i j k d _ hd => by simp [rowAt] at hd) (.e _ _ _)⟩
              · obtain ⟨b, off, spot⟩ := a
                have hx : ∀ i, i < len → ∃ ci ds, w.cells? 0 ((⟨b, off, spot⟩ : Addr).add (i * P.cellsOf e)) (P.cellsOf e) = some ci ∧ Reads w row ds ci := fun i hi => by
                  have := helem i hi
                  rw [List.getElem?_eq_getElem (by omega)] at this
                  simp only [Option.bind_eq_some_iff] at this
                  obtain ⟨ci, h1, h2⟩ := this
                  obtain ⟨ds, h3⟩ := ih e ci _ n row h2 hrow
                  exact ⟨ci, ds, h1, h3⟩
                have hs : spot = none := by
                  obtain ⟨ci, ds, h1, h2⟩ := hx 0 (by omega)
                  unfold World.cells? at h1
                  rw [if_pos (Nat.zero_le _)] at h1
                  have h3 := mapM_some_get h1 0 0 (by rw [List.getElem?_range (show 0 < P.cellsOf e by omega)])
                  have h4 : ∃ c, ci[0]? = some c := ⟨ci[0]'(by rw [h2.cl]; omega), List.getElem?_eq_getElem _⟩
                  obtain ⟨c, h4⟩ := h4
                  rw [h4] at h3
                  simpa [Addr.add] using World.cell?_spot h3
                subst hs
                have hsplit : ∀ i, (⟨b, off, none⟩ : Addr).add (i * P.cellsOf e) = ⟨b, off + i * row.length, none⟩ := fun i => by rw [Addr.add_mid, hl1]
                have hy : ∀ i, i < len → ∃ ci ds, w.cells? 0 ⟨b, off + i * row.length, none⟩ row.length = some ci ∧ Reads w row ds ci := fun i hi => by
                  obtain ⟨ci, ds, h1, h2⟩ := hx i hi
                  rw [hsplit i, ← hl1] at h1
                  exact ⟨ci, ds, h1, h2⟩
                let f : Nat → List D := fun i => if hi : i < len then Classical.choose (Classical.choose_spec (hy i hi)) else []
                let g : Nat → List Value := fun i => if hi : i < len then Classical.choose (hy i hi) else []
                have hfg : ∀ i, i < len → w.cells? 0 ⟨b, off + i * row.length, none⟩ row.length = some (g i) ∧ Reads w row (f i) (g i) := fun i hi => by
                  have := Classical.choose_spec (Classical.choose_spec (hy i hi))
                  simp only [f, g, hi, dif_pos]
                  exact this
                have hrows : ∀ i j d, rowAt ((List.range len).map f) i j = some d → i < len ∧ (f i)[j]? = some d := fun i j d hd => by
                  unfold rowAt at hd
                  rw [List.getElem?_map] at hd
                  by_cases hi : i < len
                  · rw [List.getElem?_range hi] at hd
                    exact ⟨hi, by simpa using hd⟩
                  · rw [List.getElem?_eq_none (by simpa using hi)] at hd
                    simp at hd
                have hcell : ∀ i j d, rowAt ((List.range len).map f) i j = some d → ∃ c, (g i)[j]? = some c ∧ w.cell? ⟨b, off + (i * row.length + j), none⟩ = some c ∧ Rep w (Zold w) d c := fun i j d hd => by
                  obtain ⟨hi, hd⟩ := hrows i j d hd
                  obtain ⟨h1, h2⟩ := hfg i hi
                  have hj : j < (g i).length := by rw [h2.cl, ← h2.dl]; exact (List.getElem?_eq_some_iff.1 hd).1
                  refine ⟨(g i)[j], List.getElem?_eq_getElem hj, ?_, h2.rep j d _ hd (List.getElem?_eq_getElem hj)⟩
                  rw [← (cells_at h1).2 j _ (List.getElem?_eq_getElem hj), Nat.add_assoc]
                refine ⟨_, Reads.one (.sl row ((List.range len).map f) (by rw [List.length_map, List.length_range]; omega) (fun r hr => ?_) fun i j k d hk hd => ?_) (.l _ _ b off len cap (fun i j => ((g i)[j]?).getD undef) (by simp) hlc (fun r hr => ?_) ?_ (fun i j d hd => ?_) fun i j d hd => ?_)⟩
                · obtain ⟨i, hi, rfl⟩ := List.mem_map.1 hr
                  exact (hfg i (by simpa using hi)).2.dl
                · obtain ⟨hi, hd⟩ := hrows i j d hd
                  exact (hfg i hi).2.wt j k d hk hd
                · obtain ⟨i, hi, rfl⟩ := List.mem_map.1 hr
                  exact (hfg i (by simpa using hi)).2.dl
                · obtain ⟨h1, h2⟩ := hfg 0 (by omega)
                  have h4 := (cells_at h1).2 0 _ (List.getElem?_eq_getElem (by rw [h2.cl]; omega))
                  exact World.block_lt_of_cell? w _ h4
                · obtain ⟨c, h1, h2, _⟩ := hcell i j d hd
                  rw [h2, h1]; rfl
                · obtain ⟨c, h1, _, h3⟩ := hcell i j d hd
                  rw [h1]; exact h3
          · cases hk
        · cases hk
      · rename_i fs hu
        split at hk
        · rename_i ks' hks
          split at hk
          · rename_i hlen
            cases hk
            obtain ⟨xs, m, hm, _, hcl, hxl, hx⟩ := DataW.trod_struct hu h
            cases hm
            have go : ∀ (l : List Field) (off : Nat) (ks : List KD), kindsF P (kinds P n) off l = some ks → (∀ f ∈ l, ∃ x, DataW.trod enc P w 0 spare held fuel f.type ((cs.drop f.offset).take (P.cellsOf f.type)) = some x) → ∃ ds, Reads w ks ds ((cs.drop off).take ks.length) := by
              intro l
              induction l with
              | nil =>
                intro off ks hk _
                simp [kindsF] at hk
                subst hk
                exact ⟨[], rfl, by simp, fun j k d h => by simp at h, fun j d c h => by simp at h⟩
              | cons f l ihl =>
                intro off ks hk hf
                simp only [kindsF] at hk
                split at hk
                · rename_i hoff
                  split at hk
                  · rename_i k1 hk1
                    split at hk
                    · rename_i hc1
                      split at hk
                      · rename_i k2 hk2
                        cases hk
                        obtain ⟨y, hy⟩ := hf f (by simp)
                        obtain ⟨d1, r1⟩ := ih f.type _ y n k1 hy hk1
                        obtain ⟨d2, r2⟩ := ihl _ k2 hk2 fun f' hf' => hf f' (by simp [hf'])
                        rw [hoff, ← hc1] at r1
                        refine ⟨d1 ++ d2, ?_⟩
                        have e : (cs.drop off).take (k1 ++ k2).length = (cs.drop off).take k1.length ++ (cs.drop (off + k1.length)).take k2.length := by
                          rw [List.length_append, List.take_add, List.drop_drop]
                        rw [e]
                        exact r1.app r2
                      · cases hk
                    · cases hk
                  · cases hk
                · cases hk
            obtain ⟨ds, r⟩ := go fs.toList 0 ks hks fun f hf => by
              obtain ⟨i, hi, rfl⟩ := List.getElem_of_mem hf
              have hi' : i < fs.size := by simpa using hi
              have := hx i fs[i] (by simp [hi'])
              rw [List.getElem?_eq_getElem (by omega)] at this
              exact ⟨_, by simpa using this⟩
            rw [List.drop_zero, List.take_of_length_le (by omega)] at r
            exact ⟨ds, r⟩
          · cases hk
        · cases hk
      · cases hk
end
end Go.Proofs.Ytkfjaeoehhakpaa
