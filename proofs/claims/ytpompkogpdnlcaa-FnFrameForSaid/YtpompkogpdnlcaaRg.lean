import Derived.Test.YtpompkogpdnlcaaRf
import Derived.Laws.BytesArg
import Derived.Laws.Small
import Derived.Laws.IdiomStrings
namespace Go.Proofs.Ytpompkogpdnlcaa
open Go.RowKit

section
variable {P : Program} {w : World} {Z : Nat → Prop} {L : Nat → Blk} {s : Nat → Value} {F : Nat → Prop} {W0 : Ent}

/-- an operand that may be missing -/
def ORel (w : World) (Z : Nat → Prop) (L : Nat → Blk) (s : Nat → Value) : Option AV → Option Value → Prop
  | none, none => True
  | some a, some x => AVR w Z L s a x
  | _, _ => False

theorem lo_run {lo : Option AV} {lo' : Option Value} (hr : ORel w Z L s lo lo') {c : Prop} {a : Nat} (h : loOf lo = some (c, a)) (hc : c) : (lo' = none ∧ a = 0) ∨ ∃ k n, lo' = some (.int k n) ∧ 0 ≤ n ∧ a = n.toNat := by
  unfold loOf at h
  split at h
  · simp at h
    cases lo' with
    | none => exact .inl ⟨rfl, h.2.symm⟩
    | some x => exact hr.elim
  · rename_i k n
    simp at h
    cases lo' with
    | none => exact hr.elim
    | some x =>
      cases hr
      obtain ⟨h1, h2⟩ := h
      exact .inr ⟨k, n, rfl, by rw [h1]; exact hc, h2.symm⟩
  · cases h
theorem hi_run {hi : Option AV} {hi' : Option Value} (hr : ORel w Z L s hi hi') {len : Nat} {c : Prop} {a : Nat} (h : hiOf len hi = some (c, a)) (hc : c) : (hi' = none ∧ a = len) ∨ ∃ k n, hi' = some (.int k n) ∧ 0 ≤ n ∧ a = n.toNat ∧ a ≤ len := by
  unfold hiOf at h
  split at h
  · simp at h
    cases hi' with
    | none => exact .inl ⟨rfl, h.2.symm⟩
    | some x => exact hr.elim
  · rename_i k n
    simp at h
    cases hi' with
    | none => exact hr.elim
    | some x =>
      cases hr
      obtain ⟨h1, h2⟩ := h
      rw [← h1] at hc
      exact .inr ⟨k, n, rfl, hc.1, h2.symm, by omega⟩
  · cases h

theorem slice_run {T e : TypeId} {sz : Nat} (hu : P.underlying T = some (.slice e)) (hs : szOf P e = sz) (h0 : 0 < sz) {A : Option Addr} {len cap a b : Nat} {lo' hi' : Option Value}
    (hlo : (lo' = none ∧ a = 0) ∨ ∃ k n, lo' = some (.int k n) ∧ 0 ≤ n ∧ a = n.toNat) (hhi : (hi' = none ∧ b = len) ∨ ∃ k n, hi' = some (.int k n) ∧ 0 ≤ n ∧ b = n.toNat ∧ b ≤ len) (hab : a ≤ b) (hb : b ≤ len) (hc : len ≤ cap) :
    (Instr.sliceAt T (.slice A len cap) lo' hi' none).run P w = .ok (.slice (if cap = a then A else A.map (·.add (a * sz))) (b - a) (cap - a)) w := by
  obtain ⟨i, hi, his⟩ := szOf_info hs h0
  have hel : P.underlying T = some (.slice (P.elem T)) := by simp [Program.elem, hu]
  have hee : P.elem T = e := by simp [Program.elem, hu]
  have hsz : (sizeOf (P.elem T)).run P w = .ok sz w := by rw [hee]; simp [sizeOf, typeInfo, hi, his]
  rw [run_sliceAt_slice _ T _ _ _ _ hel]
  rcases hlo with ⟨rfl, rfl⟩ | ⟨k, n, rfl, hn, rfl⟩ <;> rcases hhi with ⟨rfl, rfl⟩ | ⟨k', n', rfl, hn', rfl, hle⟩
  · rw [run_slice_all _ T A _ cap hel, hsz]; rfl
  · rw [run_slice_h _ T A len cap hel k' n' hn' (by omega), hsz]; rfl
  · rw [run_slice_l _ T A _ cap hel k n hn (by omega), hsz]; rfl
  · rw [run_slice_lh _ T A len cap hel k k' n n' hn (by omega) (by omega), hsz]; rfl

theorem Rep.shape {sz : Nat} {rows : List (List D)} {x : Value} (h : Rep w Z (.l sz rows) x) : ∃ A c, x = .slice A rows.length c ∧ rows.length ≤ c := by
  cases h with
  | e => exact ⟨_, _, rfl, by simp⟩
  | l _ _ _ _ _ _ _ hn hc => exact ⟨_, _, by rw [hn], by omega⟩

theorem slice_rep {T e : TypeId} {sz : Nat} (hu : P.underlying T = some (.slice e)) (hs : szOf P e = sz) (h0 : 0 < sz) {rows : List (List D)} {x : Value} (hx : Rep w Z (.l sz rows) x) {a b : Nat} {lo' hi' : Option Value}
    (hlo : (lo' = none ∧ a = 0) ∨ ∃ k n, lo' = some (.int k n) ∧ 0 ≤ n ∧ a = n.toNat) (hhi : (hi' = none ∧ b = rows.length) ∨ ∃ k n, hi' = some (.int k n) ∧ 0 ≤ n ∧ b = n.toNat ∧ b ≤ rows.length) (hab : a ≤ b) :
    ∃ v, (Instr.sliceAt T x lo' hi' none).run P w = .ok v w ∧ Rep w Z (.l sz ((rows.take b).drop a)) v := by
  obtain ⟨A, c, rfl, hc⟩ := hx.shape
  have hb : b ≤ rows.length := by rcases hhi with ⟨_, rfl⟩ | ⟨_, _, _, _, _, h⟩ <;> omega
  refine ⟨_, slice_run hu hs h0 hlo hhi hab hb hc, hx.cut hab hb rfl (by omega) fun h1 => ?_⟩
  cases hx with
  | e => simp at hb; omega
  | l _ _ b0 off n c u hn hc' hs' hz hcell hrep =>
    refine ⟨b0, off, _, _, rfl, ?_⟩
    rw [if_neg (by omega)]
    simp [Addr.add_mid]

theorem oSlice_ok (h : HR F W0 w L s Z) {T : TypeId} {p : AV} {lo hi : Option AV} {x : Value} {lo' hi' : Option Value} (hp : AVR w Z L s p x) (hlo : ORel w Z L s lo lo') (hhi : ORel w Z L s hi hi') {out : Out} (ho : oSlice P L T p lo hi = some out) (hc : out.c) :
    ∃ v, (Instr.sliceAt T x lo' hi' none).run P w = .ok v w ∧ AVR w Z L s out.dst v ∧ out.ups = [] := by
  unfold oSlice at ho
  split at ho
  · rename_i e hu
    split at ho
    · rename_i sz rows
      split at ho
      · rename_i hs
        split at ho
        · rename_i c1 a c2 b h1 h2
          simp at ho; subst ho
          obtain ⟨k1, k2, k3⟩ := hc
          obtain ⟨v, r1, r2⟩ := slice_rep hu hs.1 hs.2 (by cases hp with | l _ _ _ h => exact h) (lo_run hlo h1 k1) (hi_run hhi h2 k2) k3
          exact ⟨v, r1, .l _ _ _ r2, rfl⟩
        · cases ho
      · cases ho
    · rename_i r
      have hb := h.blk r
      split at ho
      · rename_i e' sz rows hL
        rw [hL] at hb
        obtain ⟨hsz, xs, hown, hr⟩ := hb.rows
        split at ho
        · rename_i hs
          split at ho
          · rename_i c1 a c2 b h1 h2
            simp at ho; subst ho
            obtain ⟨k1, k2, k3⟩ := hc
            have hx : x = s r := by
              cases hp with
              | own _ _ _ _ _ _ hx _ => exact hx
              | ownStill _ _ _ _ hd _ _ => rw [hL] at hd; cases hd
              | ownDead _ _ hd _ => rw [hL] at hd; cases hd
            subst hx
            have hh := hi_run hhi h2 k2
            have hble : b ≤ rows.length := by rcases hh with ⟨_, rfl⟩ | ⟨_, _, _, _, _, h⟩ <;> omega
            have hcap : ∃ A C, s r = .slice A rows.length C ∧ rows.length ≤ C ∧ (0 < rows.length → ∃ g, A = some ⟨g, 0, none⟩) := by
              rcases hown.2 with ⟨q1, q2⟩ | ⟨g, cap, cur, q1, _, _, q2, _⟩
              · exact ⟨none, 0, by rw [q1, q2], by omega, fun h => by omega⟩
              · exact ⟨_, cap, q1, q2, fun _ => ⟨g, rfl⟩⟩
            obtain ⟨A, C, hsr, hC, hA⟩ := hcap
            refine ⟨_, by rw [hsr]; exact slice_run hu hs.1 hs.2 (lo_run hlo h1 k1) hh k3 hble hC, .sub r a b _ e' sz rows hL k3 hble _ _ _ rfl rfl (by omega) (fun hpos => ?_), rfl⟩
            obtain ⟨g, rfl⟩ := hA (by omega)
            refine ⟨g, _, _, hsr, ?_⟩
            rw [if_neg (by omega)]
            simp [Addr.add_mid]
          · cases ho
        · cases ho
      · rename_i sz rows hL
        rw [hL] at hb
        split at ho
        · rename_i hs
          split at ho
          · rename_i c1 a c2 b h1 h2
            simp at ho; subst ho
            obtain ⟨k1, k2, k3⟩ := hc
            have hx : x = s r := by
              cases hp with
              | own _ _ _ _ _ hd _ _ => rw [hL] at hd; cases hd
              | ownStill _ _ _ _ hd hx _ => exact hx
              | ownDead _ _ hd _ => rw [hL] at hd; cases hd
            subst hx
            obtain ⟨v, r1, r2⟩ := slice_rep hu hs.1 hs.2 hb (lo_run hlo h1 k1) (hi_run hhi h2 k2) k3
            exact ⟨v, r1, .l _ _ _ r2, rfl⟩
          · cases ho
        · cases ho
      · cases ho
    · cases ho
  · cases ho

theorem lenOf_ok (h : HR F W0 w L s Z) {p : AV} {x : Value} (hp : AVR w Z L s p x) {n : Nat} (hn : lenOf L p = some n) : ∃ A c, x = .slice A n c := by
  unfold lenOf at hn
  split at hn
  · simp at hn; subst hn
    cases hp with
    | l _ _ _ h => obtain ⟨A, c, rfl, _⟩ := h.shape; exact ⟨A, c, rfl⟩
  · rename_i r
    have hb := h.blk r
    split at hn
    · rename_i e sz rows hL
      simp at hn; subst hn
      cases hp with
      | own _ _ _ _ _ hL' hx hA => rw [hL] at hL'; cases hL'; obtain ⟨A, c, hA⟩ := hA; exact ⟨A, c, by rw [hx, hA]⟩
      | ownStill _ _ _ _ hd _ _ => rw [hL] at hd; cases hd
      | ownDead _ _ hd _ => rw [hL] at hd; cases hd
    · rename_i sz rows hL
      simp at hn; subst hn
      rw [hL] at hb
      cases hp with
      | own _ _ _ _ _ hd _ _ => rw [hL] at hd; cases hd
      | ownStill _ _ _ _ hd hx _ => obtain ⟨A, c, hA, _⟩ := Rep.shape hb; exact ⟨A, c, by rw [hx, hA]⟩
      | ownDead _ _ hd _ => rw [hL] at hd; cases hd
    · cases hn
  · rename_i r lo hi
    split at hn
    · rename_i e sz rows hL
      simp at hn; subst hn
      cases hp with
      | sub _ _ _ _ _ _ _ _ _ _ A n c hx hn' => subst hx; exact ⟨A, c, by rw [hn']⟩
      | subStill _ _ _ _ _ _ hd => rw [hL] at hd; cases hd
      | subDead _ _ _ _ hd => rw [hL] at hd; cases hd
    · rename_i sz rows hL
      simp at hn; subst hn
      cases hp with
      | sub _ _ _ _ _ _ _ hd => rw [hL] at hd; cases hd
      | subDead _ _ _ _ hd => rw [hL] at hd; cases hd
      | subStill _ _ _ _ _ _ hL' hlo hhi hx =>
        obtain ⟨A, c, rfl, _⟩ := Rep.shape hx
        rw [hL] at hL'; cases hL'
        refine ⟨A, c, ?_⟩
        congr 1
        rw [List.length_drop, List.length_take]; omega
    · cases hn
  · cases hp
    unfold lenV at hn
    split at hn
    · simp at hn; subst hn; exact ⟨_, _, rfl⟩
    · cases hn
  · cases hn

theorem oLen_ok (h : HR F W0 w L s Z) {T ty : TypeId} {p : AV} {x : Value} (hp : AVR w Z L s p x) {out : Out} (ho : oLen P L T p = some out) :
    ∃ v, (Builtin.len_ #[T] ty #[x]).run P w = .ok v w ∧ AVR w Z L s out.dst v ∧ out.ups = [] := by
  unfold oLen at ho
  split at ho
  · rename_i e hu
    split at ho
    · rename_i n hn
      simp at ho; subst ho
      obtain ⟨A, c, rfl⟩ := lenOf_ok h hp hn
      exact ⟨_, by simp [Builtin.len_, run_underlying hu, goInt], .v _, rfl⟩
    · cases ho
  · rename_i hu
    split at ho
    · simp at ho; subst ho
      cases hp
      exact ⟨_, by simp [Builtin.len_, run_underlying hu, goInt], .v _, rfl⟩
    · cases ho
  · cases ho

/-- the rows of a slice, in still memory or one's own -/
theorem rowsOf_ok (h : HR F W0 w L s Z) {p : AV} {x : Value} (hp : AVR w Z L s p x) {rows : List (List D)} (hn : rowsOf L p = some rows) :
    ∃ A c, x = .slice A rows.length c ∧ (0 < rows.length → ∃ sz b off, A = some ⟨b, off, none⟩ ∧ b < w.heap.size ∧ (∀ r ∈ rows, r.length = sz) ∧ ∀ i j d, rowAt rows i j = some d → ∃ u, w.cell? ⟨b, off + (i * sz + j), none⟩ = some u ∧ Rep w Z d u) := by
  have still : ∀ sz rows x, Rep w Z (.l sz rows) x → ∃ A c, x = .slice A rows.length c ∧ (0 < rows.length → ∃ sz b off, A = some ⟨b, off, none⟩ ∧ b < w.heap.size ∧ (∀ r ∈ rows, r.length = sz) ∧ ∀ i j d, rowAt rows i j = some d → ∃ u, w.cell? ⟨b, off + (i * sz + j), none⟩ = some u ∧ Rep w Z d u) := by
    intro sz rows x hr
    cases hr with
    | e _ A c => exact ⟨A, c, rfl, fun h => by simp at h⟩
    | l _ _ b off n c u hn hc hs hz hcell hrep => exact ⟨_, _, by rw [hn], fun _ => ⟨sz, b, off, rfl, h.zin b hz, hs, fun i j d hd => ⟨_, hcell i j d hd, hrep i j d hd⟩⟩⟩
  unfold rowsOf at hn
  split at hn
  · simp at hn; subst hn
    cases hp with
    | l _ _ _ h => exact still _ _ _ h
  · rename_i r
    have hb := h.blk r
    split at hn
    · rename_i e sz rows' hL
      simp at hn; subst hn
      rw [hL] at hb
      obtain ⟨hsz, xs, hown, h1, h2, h3⟩ := hb.rows
      have hx : x = s r := by
        cases hp with
        | own _ _ _ _ _ _ hx _ => exact hx
        | ownStill _ _ _ _ hd _ _ => rw [hL] at hd; cases hd
        | ownDead _ _ hd _ => rw [hL] at hd; cases hd
      subst hx
      rcases hown.2 with ⟨q1, q2⟩ | ⟨g, cap, cur, q1, _, q3, _⟩
      · exact ⟨none, 0, by rw [q1, q2], fun h0 => by omega⟩
      · refine ⟨_, cap, q1, fun _ => ⟨sz, g, 0, rfl, (Array.getElem?_eq_some_iff.1 q3).1, h1, fun i j d hd => ?_⟩⟩
        obtain ⟨u, hu, hr⟩ := h3 i j d hd
        exact ⟨u, by rw [Nat.zero_add]; exact owns_cells hown q1 _ u hu, hr⟩
    · rename_i sz rows' hL
      simp at hn; subst hn
      rw [hL] at hb
      have hx : x = s r := by
        cases hp with
        | own _ _ _ _ _ hd _ _ => rw [hL] at hd; cases hd
        | ownStill _ _ _ _ _ hx _ => exact hx
        | ownDead _ _ hd _ => rw [hL] at hd; cases hd
      subst hx
      exact still _ _ _ hb
    · cases hn
  · rename_i r lo hi
    have hb := h.blk r
    split at hn
    · rename_i e sz rows' hL
      simp at hn; subst hn
      rw [hL] at hb
      obtain ⟨hsz, xs, hown, h1, h2, h3⟩ := hb.rows
      cases hp with
      | subStill _ _ _ _ _ _ hd => rw [hL] at hd; cases hd
      | subDead _ _ _ _ hd => rw [hL] at hd; cases hd
      | sub _ _ _ _ _ _ _ hL' hlo hhi A n c hx hn' hc hA =>
        rw [hL] at hL'; cases hL'
        have hlen : ((rows'.take hi).drop lo).length = hi - lo := by rw [List.length_drop, List.length_take]; omega
        refine ⟨A, c, by rw [hx, hn', hlen], fun h0 => ?_⟩
        obtain ⟨g, N, C, hsr, rfl⟩ := hA (by omega)
        have hg : g < w.heap.size := (h.mine r g (by rw [hL]; trivial) (by rw [hsr]; rfl)).2
        refine ⟨sz, g, lo * sz, rfl, hg, fun r hr => h1 r (List.mem_of_mem_take (List.mem_of_mem_drop hr)), fun i j d hd => ?_⟩
        have hd' : rowAt rows' (lo + i) j = some d := by
          unfold rowAt at hd ⊢
          rw [List.getElem?_drop, List.getElem?_take] at hd
          split at hd
          · exact hd
          · simp at hd
        obtain ⟨u, hu, hr⟩ := h3 _ _ d hd'
        refine ⟨u, ?_, hr⟩
        have := owns_cells hown hsr _ u hu
        rw [Nat.add_mul, Nat.add_assoc] at this
        exact this
    · rename_i sz rows' hL
      simp at hn; subst hn
      cases hp with
      | sub _ _ _ _ _ _ _ hd => rw [hL] at hd; cases hd
      | subDead _ _ _ _ hd => rw [hL] at hd; cases hd
      | subStill _ _ _ _ _ _ hL' hlo hhi hx =>
        rw [hL] at hL'; cases hL'
        exact still _ _ _ hx
    · cases hn
  · split at hn
    · rename_i hnil
      simp at hn; subst hn
      cases hp
      rw [nilV_eq hnil]
      exact ⟨_, _, rfl, fun h => by simp at h⟩
    · cases hn
  · cases hn

theorem rowAt_bytes (xs : List UInt8) (i : Nat) (x : UInt8) (h : xs[i]? = some x) : rowAt (rowsOfBytes xs) i 0 = some (.v (.int .u8 (x.toNat : Int))) := by
  simp [rowAt, rowsOfBytes, h]

theorem oConvert_ok (h : HR F W0 w L s Z) {src dst : TypeId} {p : AV} {x : Value} (hp : AVR w Z L s p x) {out : Out} (ho : oConvert P L src dst p = some out) (hc : out.c) :
    ∃ v, (convert src dst x).run P w = .ok v w ∧ AVR w Z L s out.dst v ∧ out.ups = [] := by
  unfold oConvert at ho
  split at ho
  · rename_i k0 k hs hd
    split at ho
    · simp at ho; subst ho
      cases hp
      exact ⟨_, by simp [convert, run_underlying hs, run_underlying hd, Conv.intToInt], .v _, rfl⟩
    · cases ho
  · rename_i e hs hd
    split at ho
    · rename_i rows he hr
      simp at ho; subst ho
      obtain ⟨A, c, rfl, hA⟩ := rowsOf_ok h hp hr
      simp only at hc
      generalize bytesOfRows rows = xs at hc ⊢
      subst hc
      have hl : (rowsOfBytes xs).length = xs.length := by simp [rowsOfBytes]
      refine ⟨.string ⟨xs.toArray⟩, ?_, .v _, rfl⟩
      rcases A with _ | a
      · have h0 : xs = [] := by
          rcases xs with _ | ⟨x, r⟩
          · rfl
          · obtain ⟨_, _, _, e, _⟩ := hA (by simp [rowsOfBytes]); cases e
        subst h0
        exact run_convert_bytes_nil _ _ _ hs he _ _ _ hd
      · rw [hl]
        refine run_convert_bytes_back w _ _ _ a c xs hs he hd fun j hj => ?_
        obtain ⟨sz, b, off, e, _, hsz, hcell⟩ := hA (by rw [hl]; omega)
        injection e with e
        subst e
        obtain ⟨u, hu, hr⟩ := hcell j 0 _ (rowAt_bytes xs j _ (List.getElem?_eq_getElem hj))
        cases hr
        have : sz = 1 := by
          have := hsz [.v (.int .u8 ((xs[j]).toNat : Int))] (by simp only [rowsOfBytes, List.mem_map]; exact ⟨xs[j], List.getElem_mem hj, rfl⟩)
          simpa using this.symm
        subst this
        rw [Addr.add_mid]
        simpa using hu
    · cases ho
  · cases ho

theorem oBin_ok {op : BinOp} {T : TypeId} {xo yo : Operand} {p q : AV} {x y : Value} (hp : AVR w Z L s p x) (hq : AVR w Z L s q y) {out : Out} (ho : oBin P op T p q = some out) (hc : out.c) :
    ∃ v, (do eqGuard op T xo yo x y; binOp op T x y : Sem Value).run P w = .ok v w ∧ AVR w Z L s out.dst v ∧ out.ups = [] := by
  unfold oBin at ho
  split at ho
  · split at ho
    · rename_i k a k' b hk
      subst hk
      cases hp
      cases hq
      cases op <;> simp at ho <;> subst ho <;> refine ⟨_, ?_, .v _, rfl⟩ <;>
        simp_all [eqGuard, binOp, Op.intArith, Op.intCmp, Op.intDiv, Op.intBits, bits]
    · cases ho
  · cases hp
    cases hq
    split at ho
    · rename_i hu
      simp at ho; subst ho
      exact ⟨_, by simp [eqGuard, binOp, run_equal_bool _ T _ _ hu], .v _, rfl⟩
    · rename_i hu
      simp at ho; subst ho
      exact ⟨_, by simp [eqGuard, binOp, run_equal_bool _ T _ _ hu], .v _, rfl⟩
    · cases ho
  · cases hp
    cases hq
    cases op <;> simp at ho <;> subst ho <;> refine ⟨_, ?_, .v _, rfl⟩ <;> simp [eqGuard, binOp, Op.stringOp]
  · cases ho

theorem oUn_ok {op : UnOp} {p : AV} {x : Value} (hp : AVR w Z L s p x) {out : Out} (ho : oUn op p = some out) :
    ∃ v, (Op.unary op x).run P w = .ok v w ∧ AVR w Z L s out.dst v ∧ out.ups = [] := by
  unfold oUn at ho
  split at ho
  · simp at ho; subst ho; cases hp; exact ⟨_, by simp [Op.unary], .v _, rfl⟩
  · simp at ho; subst ho; cases hp; exact ⟨_, by simp [Op.unary, Op.intArith], .v _, rfl⟩
  · cases ho
end
end Go.Proofs.Ytpompkogpdnlcaa
