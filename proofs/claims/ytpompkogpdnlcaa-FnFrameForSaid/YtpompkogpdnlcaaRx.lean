import Derived.Test.YtpompkogpdnlcaaRw
namespace Go.Proofs.Ytpompkogpdnlcaa
open Go.RowKit

/-- what a function does to blocks that it is lent: a condition, a value, these blocks afterwards, new slices -/
abbrev OC := List AV → List Blk → Option (Prop × AV × List Blk × List Blk)
def uniq : List Nat → List Nat
  | [] => []
  | r :: rs => r :: (uniq rs).filter fun k => k != r
def idxOf : List Nat → Nat → Nat
  | [], _ => 0
  | r :: rs, k => if k = r then 0 else idxOf rs k + 1
def bk (ids : List Nat) (q : Nat) (i : Nat) : Nat := if i < ids.length then ids.getD i 0 else q + (i - ids.length)
def Blk.liveB : Blk → Bool
  | .var .. | .sl .. => true
  | _ => false
def zipB : List Nat → List Blk → HP
  | r :: rs, b :: bs => (r, b) :: zipB rs bs
  | _, _ => []
def ownAbs (g : OC) : Abs := fun args L q =>
  match g (args.map (AV.ren fun r => some (idxOf (uniq (AV.ids.idsL args)) r))) ((uniq (AV.ids.idsL args)).map L) with
  | some (c, r, B1, bs) =>
    if ((uniq (AV.ids.idsL args)).all fun k => (L k).liveB && (blkIds (L k)).isEmpty) = true ∧ bs.length ≤ 16 then some ⟨c, r.ren fun i => some (bk (uniq (AV.ids.idsL args)) q i), zipB (uniq (AV.ids.idsL args)) B1 ++ hpAt q bs⟩ else none
  | none => none

def likeB : Blk → Blk → Prop
  | .var T cs, .var T' cs' => T = T' ∧ cs'.length = cs.length
  | .sl e sz rows, .sl e' sz' rows' => e = e' ∧ sz = sz' ∧ rows'.length = rows.length
  | _, _ => False
def likeBs : List Blk → List Blk → Prop
  | [], [] => True
  | a :: xs, b :: bs => likeB a b ∧ likeBs xs bs
  | _, _ => False

structure OwnOk (P : Program) (f : FuncId) (g : OC) : Prop where
  there : ∃ fn c, P.funcs[f]? = some fn ∧ (fn.name == "runtime.NumGoroutine") = false ∧ fn.body = some c
  does : ∀ (w : World) (F Z0 : Nat → Prop) (s0 : Nat → Value) (args : List AV) (vs : List Value) (B0 : List Blk) (c : Prop) (r : AV) (B1 bs : List Blk), HR F ⟨w, Z0⟩ w (lk (hpAt 0 B0)) s0 Z0 → ARel w Z0 (lk (hpAt 0 B0)) s0 args vs →
    (∀ b ∈ B0, b.liveB = true) → g args B0 = some (c, r, B1, bs) → c →
    (likeBs B0 B1 ∧ (∀ b ∈ B1 ++ bs, b.liveB = true ∧ blkIds b = []) ∧ (∀ k ∈ r.ids, k < B1.length + bs.length)) ∧
    Calls P f vs.toArray w fun e w' => ∃ v s Z, e = .returned v ∧ HR F ⟨w, Z0⟩ w' (lk (hpAt 0 (B1 ++ bs))) s Z ∧ (∀ i, i < B0.length → s i = s0 i) ∧ AVR w' Z (lk (hpAt 0 (B1 ++ bs))) s r v

section
variable {P : Program} {w : World} {Z : Nat → Prop} {L L' : Nat → Blk} {s s' : Nat → Value} {F : Nat → Prop} {W0 : Ent}

theorem AVR.moved {m : Nat → Nat} {a : AV} {x : Value} (h : AVR w Z L s a x) : (∀ r ∈ a.ids, L' (m r) = L r ∧ s' (m r) = s r) → AVR w Z L' s' (a.ren fun r => some (m r)) x := by
  induction h with
  | any x => intro _; exact .any x
  | v x => intro _; exact .v x
  | l sz rows x h => intro _; exact .l sz rows x h
  | own r x e sz rows hL hx hn => intro hh; obtain ⟨h1, h2⟩ := hh r (by simp [AV.ids]); exact .own _ x e sz rows (by rw [h1, hL]) (by rw [h2, hx]) (by rw [h2]; exact hn)
  | ownStill r x sz rows hL hx ho => intro hh; obtain ⟨h1, h2⟩ := hh r (by simp [AV.ids]); exact .ownStill _ x sz rows (by rw [h1, hL]) (by rw [h2, hx]) ho
  | ownDead r x hL ho => intro hh; obtain ⟨h1, h2⟩ := hh r (by simp [AV.ids]); exact .ownDead _ x (by rw [h1, hL]) ho
  | sub r lo hi x e sz rows hL h1 h2 A n c hx hn hc hA => intro hh; obtain ⟨k1, k2⟩ := hh r (by simp [AV.ids]); exact .sub _ lo hi x e sz rows (by rw [k1, hL]) h1 h2 A n c hx hn hc (by rw [k2]; exact hA)
  | subStill r lo hi x sz rows hL h1 h2 hx => intro hh; obtain ⟨k1, k2⟩ := hh r (by simp [AV.ids]); exact .subStill _ lo hi x sz rows (by rw [k1, hL]) h1 h2 hx
  | subDead r lo hi x hL ho => intro hh; obtain ⟨k1, k2⟩ := hh r (by simp [AV.ids]); exact .subDead _ lo hi x (by rw [k1, hL]) ho
  | ptr r off x T cs hL g hs hx => intro hh; obtain ⟨k1, k2⟩ := hh r (by simp [AV.ids]); exact .ptr _ off x T cs (by rw [k1, hL]) g (by rw [k2, hs]) hx
  | ptrDead r off x hL ho => intro hh; obtain ⟨k1, k2⟩ := hh r (by simp [AV.ids]); exact .ptrDead _ off x (by rw [k1, hL]) ho
  | eptr r i j x e sz rows hL g n c hs hx => intro hh; obtain ⟨k1, k2⟩ := hh r (by simp [AV.ids]); exact .eptr _ i j x e sz rows (by rw [k1, hL]) g n c (by rw [k2, hs]) hx
  | eptrStill r i j x sz rows hL ho => intro hh; obtain ⟨k1, k2⟩ := hh r (by simp [AV.ids]); exact .eptrStill _ i j x sz rows (by rw [k1, hL]) ho
  | eptrDead r i j x hL ho => intro hh; obtain ⟨k1, k2⟩ := hh r (by simp [AV.ids]); exact .eptrDead _ i j x (by rw [k1, hL]) ho
  | rptr cells b off u h1 h2 h3 => intro _; exact .rptr cells b off u h1 h2 h3
  | agg cs vs hl _ ih =>
    intro hh
    simp only [AV.ren]
    rw [renL_map]
    refine .agg _ vs (by simp [hl]) fun i a b ha hb => ?_
    rw [List.getElem?_map] at ha
    cases hc : cs[i]? with
    | none => simp [hc] at ha
    | some c => simp [hc] at ha; subst ha; exact ih i c b hc hb fun r hr => hh r (by simp only [AV.ids]; exact (memL _ _).2 ⟨c, List.mem_of_getElem? hc, hr⟩)
  | tup cs vs hl _ ih =>
    intro hh
    simp only [AV.ren]
    rw [renL_map]
    refine .tup _ vs (by simp [hl]) fun i a b ha hb => ?_
    rw [List.getElem?_map] at ha
    cases hc : cs[i]? with
    | none => simp [hc] at ha
    | some c => simp [hc] at ha; subst ha; exact ih i c b hc hb fun r hr => hh r (by simp only [AV.ids]; exact (memL _ _).2 ⟨c, List.mem_of_getElem? hc, hr⟩)

theorem ren_noids {f : Nat → Option Nat} : ∀ (n : Nat) (a : AV), SizeOf.sizeOf a ≤ n → a.ids = [] → a.ren f = a := by
  intro n
  induction n with
  | zero => intro a ha; cases a <;> simp at ha <;> omega
  | succ n ih =>
    intro a ha h
    have list : ∀ cs : List AV, (∀ c ∈ cs, SizeOf.sizeOf c ≤ n) → AV.ids.idsL cs = [] → AV.ren.renL f cs = cs := by
      intro cs hcs hids
      rw [renL_map]
      rw [List.map_congr_left (g := id) fun c hc => ih c (hcs c hc) (by
        rcases hi : c.ids with _ | ⟨r, t⟩
        · rfl
        · have : r ∈ AV.ids.idsL cs := (memL _ _).2 ⟨c, hc, by rw [hi]; simp⟩
          rw [hids] at this; cases this)]
      simp
    cases a with
    | own r => simp [AV.ids] at h
    | sub r lo hi => simp [AV.ids] at h
    | ptr r o => simp [AV.ids] at h
    | eptr r i j => simp [AV.ids] at h
    | agg cs =>
      simp only [AV.ids] at h
      simp only [AV.ren]
      rw [list cs (fun c hc => by have := List.sizeOf_lt_of_mem hc; simp at ha; omega) h]
    | tup cs =>
      simp only [AV.ids] at h
      simp only [AV.ren]
      rw [list cs (fun c hc => by have := List.sizeOf_lt_of_mem hc; simp at ha; omega) h]
    | _ => rfl

theorem AVR.noids {a : AV} {x : Value} (h : AVR w Z L s a x) (hi : a.ids = []) : AVR w Z L' s' a x := by
  have := h.moved (m := id) (L' := L') (s' := s') fun r hr => by rw [hi] at hr; cases hr
  rwa [ren_noids _ a (Nat.le_refl _) hi] at this

theorem BlkR.noids {b : Blk} {v : Value} (h : BlkR w Z L s b v) (hi : blkIds b = []) : BlkR w Z L' s' b v := by
  cases b with
  | var T cs =>
    obtain ⟨g, vs, h1, h2, h3, h4⟩ := h
    refine ⟨g, vs, h1, h2, h3, fun i x y hx hy => ⟨(h4 i x y hx hy).1.noids ?_, (h4 i x y hx hy).2⟩⟩
    simp only [blkIds] at hi
    rcases hx' : x.ids with _ | ⟨r, t⟩
    · rfl
    · have : r ∈ AV.ids.idsL cs := (memL _ _).2 ⟨x, List.mem_of_getElem? hx, by rw [hx']; simp⟩
      rw [hi] at this; cases this
  | _ => exact h

theorem liveB_iff {b : Blk} : b.liveB = true ↔ b.live := by cases b <;> simp [Blk.liveB, Blk.live]

theorem uniq_nodup : ∀ l, (uniq l).Nodup
  | [] => List.nodup_nil
  | r :: rs => by
    rw [uniq, List.nodup_cons]
    exact ⟨fun h => by have := (List.mem_filter.1 h).2; simp at this, (uniq_nodup rs).filter _⟩
theorem uniq_mem : ∀ l k, k ∈ uniq l ↔ k ∈ l
  | [], k => by simp [uniq]
  | r :: rs, k => by
    rw [uniq, List.mem_cons, List.mem_filter, uniq_mem rs k, List.mem_cons]
    by_cases h : k = r <;> simp [h]
theorem idxOf_spec : ∀ (l : List Nat) (k : Nat), k ∈ l → idxOf l k < l.length ∧ l[idxOf l k]? = some k
  | [], k, h => by cases h
  | r :: rs, k, h => by
    simp only [idxOf]
    split
    · rename_i e; subst e; simp
    · rename_i e
      have := idxOf_spec rs k (by simpa [e] using h)
      simp only [List.length_cons, List.getElem?_cons_succ]
      exact ⟨by omega, this.2⟩

theorem ups_zipB : ∀ (ids : List Nat) (bs : List Blk) (L : Nat → Blk), ids.Nodup → bs.length = ids.length → ∀ k, ups L (zipB ids bs) k = if k ∈ ids then bs.getD (idxOf ids k) .none else L k
  | [], [], L, _, _, k => by simp [zipB, ups]
  | r :: ids, b :: bs, L, hn, hl, k => by
    simp only [zipB, ups]
    rw [List.nodup_cons] at hn
    rw [ups_zipB ids bs _ hn.2 (by simpa using hl) k]
    by_cases h1 : k = r
    · subst h1
      rw [if_neg hn.1, up_same, if_pos (by simp)]
      simp [idxOf]
    · simp only [idxOf, h1, if_false, List.mem_cons, false_or, List.getD_cons_succ]
      split
      · rfl
      · exact up_ne _ _ h1
  | [], _ :: _, _, _, h, _ => by simp at h
  | _ :: _, [], _, _, h, _ => by simp at h

theorem likeBs_at : ∀ {A B : List Blk}, likeBs A B → A.length = B.length ∧ ∀ (i : Nat) a b, A[i]? = some a → B[i]? = some b → likeB a b
  | [], [], _ => ⟨rfl, fun i a b h => by simp at h⟩
  | a :: xs, b :: bs, ⟨h1, h2⟩ => by
    obtain ⟨k1, k2⟩ := likeBs_at h2
    refine ⟨by simp [k1], fun i x y hx hy => ?_⟩
    cases i with
    | zero => simp at hx hy; subst hx; subst hy; exact h1
    | succ i => exact k2 i x y (by simpa using hx) (by simpa using hy)
  | [], _ :: _, h => h.elim
  | _ :: _, [], h => h.elim

/-- a function that is lent blocks -/
theorem OwnOk.call {f : FuncId} {g : OC} (C : OwnOk P f g) : CallOk P f (ownAbs g) := by
  refine ⟨C.there, fun F W0 w L s Z args vs q out hH hargs hab hc hfree => ?_, fun L L' args q hn => ?_, fun L args q out hab p hp => ?_⟩
  · unfold ownAbs at hab
    split at hab
    · rename_i c r B1 bs hg
      split at hab
      · rename_i hcond
        obtain ⟨hlive, hlen⟩ := hcond
        simp at hab; subst hab
        have hnd := uniq_nodup (AV.ids.idsL args)
        have hmem : ∀ x ∈ args, ∀ k ∈ x.ids, k ∈ uniq (AV.ids.idsL args) := fun x hx k hk => (uniq_mem _ _).2 ((memL _ _).2 ⟨x, hx, hk⟩)
        generalize uniq (AV.ids.idsL args) = ids at hg hlive hnd hmem ⊢
        have hidl : ∀ k ∈ ids, (L k).live ∧ blkIds (L k) = [] := fun k hk => by
          have := List.all_eq_true.1 hlive k hk
          rw [Bool.and_eq_true] at this
          exact ⟨liveB_iff.1 this.1, by simpa using this.2⟩
        have hget : ∀ i k, ids[i]? = some k → ∀ j, ids[j]? = some k → i = j := fun i k hi j hj => (List.getElem?_inj (List.getElem?_eq_some_iff.1 hi).1 hnd).1 (hi.trans hj.symm)
        -- the callee's view
        let s0 : Nat → Value := fun i => s (ids.getD i 0)
        let F0 : Nat → Prop := fun b => ∃ k ∈ ids, vblk (s k) = some b
        let L0 := lk (hpAt 0 (ids.map L))
        have hL0 : ∀ i, L0 i = match ids[i]? with | some k => L k | none => .none := fun i => by
          show lk (hpAt 0 (ids.map L)) i = _
          rw [lk_hpAt, if_pos (Nat.zero_le _), Nat.sub_zero]
          simp only [List.getD, List.getElem?_map]
          cases ids[i]? <;> rfl
        have hs0 : ∀ i k, ids[i]? = some k → s0 i = s k := fun i k hi => by simp [s0, List.getD, hi]
        have at0 : ∀ i, (L0 i).live → ∃ k, ids[i]? = some k ∧ L0 i = L k ∧ s0 i = s k := fun i hi => by
          rw [hL0] at hi
          cases hk : ids[i]? with
          | none => rw [hk] at hi; exact hi.elim
          | some k => exact ⟨k, rfl, by rw [hL0, hk], hs0 i k hk⟩
        have H0 : HR F0 ⟨w, Z⟩ w L0 s0 Z := by
          refine ⟨fun i => ?_, fun i j b hi hj hbi hbj => ?_, fun i b hi hb => ?_, fun i b hi hb => ?_, hH.zin, ⟨rfl, rfl, rfl, Nat.le_refl _, fun _ _ _ => rfl⟩, fun b hb => .inl hb, fun b hb => hb⟩
          · rw [hL0]
            cases hk : ids[i]? with
            | none => trivial
            | some k =>
              rw [hs0 i k hk]
              exact (hH.blk k).noids (hidl k (List.mem_of_getElem? hk)).2
          · obtain ⟨k, k1, k2, k3⟩ := at0 i hi
            obtain ⟨k', k1', k2', k3'⟩ := at0 j hj
            rw [k3] at hbi
            rw [k3'] at hbj
            rw [k2] at hi
            rw [k2'] at hj
            have := hH.sep k k' b hi hj hbi hbj
            subst this
            exact hget i k k1 j k1'
          · obtain ⟨k, k1, k2, k3⟩ := at0 i hi
            rw [k3] at hb
            rw [k2] at hi
            exact hH.nz k b hi hb
          · obtain ⟨k, k1, k2, k3⟩ := at0 i hi
            rw [k3] at hb
            rw [k2] at hi
            exact ⟨.inl ⟨k, List.mem_of_getElem? k1, hb⟩, (hH.mine k b hi hb).2⟩
        have hargs0 : ARel w Z L0 s0 (args.map (AV.ren fun r => some (idxOf ids r))) vs := ⟨by simp [hargs.1], fun i x y hx hy => by
          rw [List.getElem?_map] at hx
          cases hz : args[i]? with
          | none => simp [hz] at hx
          | some z =>
            simp [hz] at hx; subst hx
            refine (hargs.2 i z y hz hy).moved fun k hk => ?_
            have hk' := hmem z (List.mem_of_getElem? hz) k hk
            have := (idxOf_spec ids k hk').2
            exact ⟨by rw [hL0, this], hs0 _ k this⟩⟩
        have hB0 : ∀ b ∈ ids.map L, b.liveB = true := fun b hb => by
          obtain ⟨k, hk, rfl⟩ := List.mem_map.1 hb
          exact liveB_iff.2 (hidl k hk).1
        obtain ⟨⟨g1, g2, g3⟩, hcall⟩ := C.does w F0 Z s0 _ vs _ c r B1 bs H0 hargs0 hB0 hg hc
        obtain ⟨hl1, hl2⟩ := likeBs_at g1
        have hl1 : B1.length = ids.length := by rw [← hl1]; simp
        refine hcall.mono ?_
        rintro e w' ⟨v, s1, Z1, rfl, H1, hs1, hr⟩
        let L1 := lk (hpAt 0 (B1 ++ bs))
        let s' : Nat → Value := fun k => if q ≤ k ∧ k < q + bs.length then s1 (ids.length + (k - q)) else s k
        have hL1 : ∀ i, L1 i = (B1 ++ bs).getD i .none := fun i => by
          show lk (hpAt 0 (B1 ++ bs)) i = _
          rw [lk_hpAt, if_pos (Nat.zero_le _), Nat.sub_zero]
        have hqids : ∀ k, q ≤ k → k < q + 16 → k ∉ ids := fun k h1 h2 hk => by
          have := (hidl k hk).1
          rw [hfree k h1 h2] at this
          exact this
        let L' := ups L (zipB ids B1 ++ hpAt q bs)
        have hL' : ∀ k, L' k = if q ≤ k ∧ k < q + bs.length then bs.getD (k - q) .none else if k ∈ ids then B1.getD (idxOf ids k) .none else L k := fun k => by
          show ups L (zipB ids B1 ++ hpAt q bs) k = _
          rw [ups_append, ups_hpAt]
          split
          · rfl
          · exact ups_zipB ids B1 L hnd hl1 k
        -- three kinds of blocks
        have kind : ∀ k, (∃ j, j < bs.length ∧ k = q + j ∧ L' k = L1 (ids.length + j) ∧ s' k = s1 (ids.length + j)) ∨ (∃ i, i < ids.length ∧ ids[i]? = some k ∧ L' k = L1 i ∧ s' k = s k ∧ s1 i = s k ∧ ¬ (q ≤ k ∧ k < q + bs.length)) ∨ (k ∉ ids ∧ L' k = L k ∧ s' k = s k ∧ ¬ (q ≤ k ∧ k < q + bs.length)) := fun k => by
          by_cases h1 : q ≤ k ∧ k < q + bs.length
          · refine .inl ⟨k - q, by omega, by omega, ?_, by simp only [s']; rw [if_pos h1]⟩
            rw [hL', if_pos h1, hL1]
            simp only [List.getD]
            rw [List.getElem?_append_right (by omega)]
            congr 2
            omega
          · by_cases h2 : k ∈ ids
            · obtain ⟨k1, k2⟩ := idxOf_spec ids k h2
              refine .inr (.inl ⟨idxOf ids k, k1, k2, ?_, by simp only [s']; rw [if_neg h1], ?_, h1⟩)
              · rw [hL', if_neg h1, if_pos h2, hL1]
                simp only [List.getD]
                rw [List.getElem?_append_left (by omega)]
              · rw [hs1 _ (by simpa using k1), hs0 _ k k2]
            · exact .inr (.inr ⟨h2, by rw [hL', if_neg h1, if_neg h2], by simp only [s']; rw [if_neg h1], h1⟩)
        have hids1 : ∀ i, i < ids.length + bs.length → (L1 i).live ∧ blkIds (L1 i) = [] := fun i hi => by
          rw [hL1]
          simp only [List.getD]
          rw [List.getElem?_eq_getElem (by rw [List.length_append]; omega)]
          have := g2 _ (List.getElem_mem (show i < (B1 ++ bs).length by rw [List.length_append]; omega))
          exact ⟨liveB_iff.1 this.1, this.2⟩
        have hF0lt : ∀ b, F0 b → b < w.heap.size ∧ (F b ∨ W0.w.heap.size ≤ b) ∧ ¬ Z b := fun b ⟨k, hk, hb⟩ => by
          have h1 := hH.mine k b (hidl k hk).1 hb
          exact ⟨h1.2, h1.1, hH.nz k b (hidl k hk).1 hb⟩
        have hw : ∀ b, b < w.heap.size → ¬ F0 b → w'.heap[b]? = w.heap[b]? := fun b hb hn => H1.kept.block b hb hn
        have hnotF0 : ∀ k, k ∉ ids → ∀ b, (L k).live → vblk (s k) = some b → ¬ F0 b := fun k hk b hl hb ⟨k', hk', hb'⟩ => hk (hH.sep k k' b hl (hidl k' hk').1 hb hb' ▸ hk')
        have hnew : ∀ j b, j < bs.length → vblk (s1 (ids.length + j)) = some b → w.heap.size ≤ b ∧ b < w'.heap.size := fun j b hj hb => by
          have hl := (hids1 (ids.length + j) (by omega)).1
          have h1 := H1.mine _ b hl hb
          refine ⟨?_, h1.2⟩
          rcases h1.1 with ⟨k, hk, hkb⟩ | h2
          · exfalso
            obtain ⟨k1, k2⟩ := idxOf_spec ids k hk
            have e : s1 (idxOf ids k) = s k := by rw [hs1 _ (by simpa using k1), hs0 _ k k2]
            have := H1.sep (ids.length + j) (idxOf ids k) b hl (hids1 _ (by omega)).1 hb (by rw [e]; exact hkb)
            omega
          · exact h2
        have hE : Ext w Z L s w' Z1 L' s' := by
          refine ⟨fun b hb => H1.zhas b hb, fun b hb => hw b (hH.zin b hb) fun hF => (hF0lt b hF).2.2 hb, fun k => ?_, fun k e sz rows sz' rows' h1 h2 => ?_⟩
          · rcases kind k with ⟨j, hj, rfl, _, _⟩ | ⟨i, hi, hik, e1, e2, _, _⟩ | ⟨_, e1, e2, _⟩
            · exact .fresh (hfree _ (by omega) (by omega))
            · rw [e1, e2]
              have ha : (ids.map L)[i]? = some (L k) := by rw [List.getElem?_map, hik]; rfl
              have hb : B1[i]? = some (L1 i) := by
                rw [hL1]
                simp only [List.getD]
                rw [List.getElem?_append_left (by omega), List.getElem?_eq_getElem (by omega)]
                rfl
              have hlk := hl2 i _ _ ha hb
              generalize L k = x at hlk
              generalize L1 i = y at hlk
              cases x <;> cases y <;> simp only [likeB] at hlk <;> try exact hlk.elim
              · obtain ⟨rfl, h⟩ := hlk; exact .var _ _ _ rfl rfl rfl
              · obtain ⟨rfl, rfl, h⟩ := hlk; exact .sl _ _ _ _ rfl rfl h rfl
            · rw [e1, e2]; exact Like.refl _ _
          · rcases kind k with ⟨j, hj, rfl, _, _⟩ | ⟨i, hi, hik, e1, e2, _, _⟩ | ⟨_, e1, e2, _⟩
            · rw [hfree _ (by omega) (by omega)] at h1; cases h1
            · rw [e1] at h2
              have := (hids1 i (by omega)).1
              rw [h2] at this
              exact this.elim
            · rw [e1, h1] at h2; cases h2
        refine ⟨v, s', Z1, rfl, ⟨fun k => ?_, fun k k' b l1 l2 b1 b2 => ?_, fun k b l1 b1 => ?_, fun k b l1 b1 => ?_, H1.zin, ?_, fun b hb => ?_, fun b hb => H1.zhas b (hH.zhas b hb)⟩, hE, ?_⟩
        · show BlkR w' Z1 L' s' (L' k) (s' k)
          rcases kind k with ⟨j, hj, rfl, e1, e2⟩ | ⟨i, hi, hik, e1, e2, e3, _⟩ | ⟨hni, e1, e2, _⟩
          · rw [e1, e2]; exact (H1.blk _).noids (hids1 _ (by omega)).2
          · rw [e1, e2, ← e3]; exact (H1.blk _).noids (hids1 _ (by omega)).2
          · rw [e1, e2]; exact (hH.blk k).mono hE fun hl b hb => hw b (hH.mine k b hl hb).2 (hnotF0 k hni b hl hb)
        · have l1 : (L' k).live := l1
          have l2 : (L' k').live := l2
          rcases kind k with ⟨j, hj, rfl, e1, e2⟩ | ⟨i, hi, hik, e1, e2, e3, _⟩ | ⟨hni, e1, e2, _⟩ <;> rcases kind k' with ⟨j', hj', rfl, f1, f2⟩ | ⟨i', hi', hik', f1, f2, f3, _⟩ | ⟨hni', f1, f2, _⟩ <;> rw [e1] at l1 <;> rw [f1] at l2 <;> rw [e2] at b1 <;> rw [f2] at b2
          · have := H1.sep _ _ b l1 l2 b1 b2; omega
          · have h1 := hnew j b hj b1
            have h2 := (hH.mine k' b (hidl k' (List.mem_of_getElem? hik')).1 b2).2
            omega
          · have h1 := hnew j b hj b1
            have h2 := (hH.mine k' b l2 b2).2
            omega
          · have h1 := hnew j' b hj' b2
            have h2 := (hH.mine k b (hidl k (List.mem_of_getElem? hik)).1 b1).2
            omega
          · exact hH.sep k k' b (hidl k (List.mem_of_getElem? hik)).1 (hidl k' (List.mem_of_getElem? hik')).1 b1 b2
          · exact hH.sep k k' b (hidl k (List.mem_of_getElem? hik)).1 l2 b1 b2
          · have h1 := hnew j' b hj' b2
            have h2 := (hH.mine k b l1 b1).2
            omega
          · exact hH.sep k k' b l1 (hidl k' (List.mem_of_getElem? hik')).1 b1 b2
          · exact hH.sep k k' b l1 l2 b1 b2
        · have l1 : (L' k).live := l1
          intro hz
          rcases kind k with ⟨j, hj, rfl, e1, e2⟩ | ⟨i, hi, hik, e1, e2, e3, _⟩ | ⟨hni, e1, e2, _⟩ <;> rw [e1] at l1 <;> rw [e2] at b1
          · exact H1.nz _ b l1 b1 hz
          · rw [← e3] at b1; exact H1.nz _ b l1 b1 hz
          · rcases H1.zsrc b hz with h | h | h
            · exact hH.nz k b l1 b1 h
            · exact hnotF0 k hni b l1 b1 h
            · have h : w.heap.size ≤ b := h
              have := (hH.mine k b l1 b1).2; omega
        · have l1 : (L' k).live := l1
          rcases kind k with ⟨j, hj, rfl, e1, e2⟩ | ⟨i, hi, hik, e1, e2, e3, _⟩ | ⟨hni, e1, e2, _⟩ <;> rw [e1] at l1 <;> rw [e2] at b1
          · have h1 := hnew j b hj b1
            exact ⟨.inr (Nat.le_trans hH.kept.size h1.1), h1.2⟩
          · have h1 := hH.mine k b (hidl k (List.mem_of_getElem? hik)).1 b1
            exact ⟨h1.1, Nat.lt_of_lt_of_le h1.2 H1.kept.size⟩
          · have h1 := hH.mine k b l1 b1
            exact ⟨h1.1, Nat.lt_of_lt_of_le h1.2 H1.kept.size⟩
        · have k0 := hH.kept
          have k1 := H1.kept
          refine ⟨k1.os.trans k0.os, k1.tape.trans k0.tape, k1.output.trans k0.output, Nat.le_trans k0.size k1.size, fun b hb hF => (hw b (Nat.lt_of_lt_of_le hb k0.size) fun hF0 => ?_).trans (k0.block b hb hF)⟩
          rcases (hF0lt b hF0).2.1 with h | h
          · exact hF h
          · omega
        · rcases H1.zsrc b hb with h | h | h
          · exact hH.zsrc b h
          · exact .inr (hF0lt b h).2.1
          · exact .inr (.inr (Nat.le_trans hH.kept.size h))
        · refine hr.moved fun i hi => ?_
          have hi' := g3 i hi
          show L' (bk ids q i) = L1 i ∧ s' (bk ids q i) = s1 i
          unfold bk
          by_cases h : i < ids.length
          · rw [if_pos h]
            have hik : ids[i]? = some (ids.getD i 0) := by simp [List.getD, h]
            rcases kind (ids.getD i 0) with ⟨j, hj, e0, _, _⟩ | ⟨i', hi', hik', e1, e2, e3, _⟩ | ⟨hni, _, _, _⟩
            · exact absurd (List.mem_of_getElem? hik) (hqids _ (by omega) (by omega))
            · have := hget i _ hik i' hik'
              subst this
              exact ⟨e1, by rw [e2, e3]⟩
            · exact absurd (List.mem_of_getElem? hik) hni
          · rw [if_neg h]
            rcases kind (q + (i - ids.length)) with ⟨j, hj, e0, e1, e2⟩ | ⟨i', hi', hik', e1, e2, e3, e4⟩ | ⟨hni, _, _, e4⟩
            · have : j = i - ids.length := by omega
              subst this
              rw [show ids.length + (i - ids.length) = i by omega] at e1 e2
              exact ⟨e1, e2⟩
            · omega
            · omega
      · cases hab
    · cases hab
  · unfold ownAbs
    have hL : ∀ k ∈ uniq (AV.ids.idsL args), L' k = L k := fun k hk => hn k (List.mem_flatMap.2 ⟨k, (uniq_mem _ _).1 hk, by simp⟩)
    have e1 : (uniq (AV.ids.idsL args)).map L' = (uniq (AV.ids.idsL args)).map L := List.map_congr_left hL
    have e2 : ((uniq (AV.ids.idsL args)).all fun k => (L' k).liveB && (blkIds (L' k)).isEmpty) = ((uniq (AV.ids.idsL args)).all fun k => (L k).liveB && (blkIds (L k)).isEmpty) := by
      rw [Bool.eq_iff_iff, List.all_eq_true, List.all_eq_true]
      exact ⟨fun h k hk => by rw [← hL k hk]; exact h k hk, fun h k hk => by rw [hL k hk]; exact h k hk⟩
    rw [e1, e2]
  · unfold ownAbs at hab
    split at hab
    · rename_i c r B1 bs hg
      split at hab
      · rename_i hcond
        obtain ⟨hlive, hlen⟩ := hcond
        simp at hab; subst hab
        rcases List.mem_append.1 hp with hp | hp
        · left
          have key : ∀ (ids : List Nat) (bs : List Blk) p, p ∈ zipB ids bs → p.1 ∈ ids := by
            intro ids
            induction ids with
            | nil => intro bs p hp; simp [zipB] at hp
            | cons r ids ih =>
              intro bs p hp
              cases bs with
              | nil => simp [zipB] at hp
              | cons b bs =>
                simp only [zipB, List.mem_cons] at hp ⊢
                rcases hp with rfl | hp
                · exact .inl rfl
                · exact .inr (ih bs p hp)
          have := (uniq_mem _ _).1 (key _ _ p hp)
          exact List.mem_flatMap.2 ⟨p.1, this, by simp⟩
        · right
          have key : ∀ (bs : List Blk) (q : Nat) p, p ∈ hpAt q bs → q ≤ p.1 ∧ p.1 < q + bs.length := by
            intro bs
            induction bs with
            | nil => intro q p hp; simp [hpAt] at hp
            | cons b bs ih =>
              intro q p hp
              simp only [hpAt, List.mem_cons] at hp
              rcases hp with rfl | hp
              · simp
              · have := ih (q + 1) p hp
                simp; omega
          have := key bs q p hp
          omega
      · cases hab
    · cases hab
end
end Go.Proofs.Ytpompkogpdnlcaa
