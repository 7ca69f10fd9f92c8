import Derived.Test.YtpompkogpdnlcaaRt
namespace Go.Proofs.Ytpompkogpdnlcaa
open Go.RowKit

abbrev Post := Exit → List AV → HP → Nat → Prop
/-- what is to be shown of a text -/
def vc (P : Program) (G : List (FuncId × Abs)) (S0 : List Nat) : Code → Post → List AV → HP → Nat → Prop
  | .skip, K, tm, hp, n => K .normal tm hp n
  | .label _, K, tm, hp, n => K .normal tm hp n
  | .ret, K, tm, hp, n => K .ret tm hp n
  | .exit id, K, tm, hp, n => K (.exit id) tm hp n
  | .region _ ops dr, K, tm, hp, n => vcOps P G (dstsOf ops.toList) dr ops.toList n tm hp [] fun tm' hp' fps => (if dr then drawOk ops n fps = true else True) ∧ K .normal tm' hp' (n + 16 * ops.size)
  | .seq a b, K, tm, hp, n => vc P G S0 a (fun e tm hp n => match e with | .normal => vc P G S0 b K tm hp n | e => K e tm hp n) tm hp n
  | .cond c a b, K, tm, hp, n => match boolOf (evA tm c) with
    | some x => if x = true then vc P G S0 a K (refn tm c true) hp n else vc P G S0 b K (refn tm c false) hp n
    | none => False
  | .block id a, K, tm, hp, n => vc P G S0 a (fun e tm hp n => match e with | .exit j => if j = id then K .normal tm hp n else K (.exit j) tm hp n | e => K e tm hp n) tm hp n
  | .loop a, K, tm, hp, n => ∃ (α : Type) (T : α → List AV) (H : α → HP) (φ : α → Prop) (μ : α → Nat) (n1 : Nat), (∀ x, ((H x).all fun p => decide (p.1 < n1)) = true) ∧ (∃ x p, φ x ∧ Fits tm hp (T x) (H x) p ∧ keepIds S0 (H x) p = true) ∧
      ∀ x, φ x → vc P G S0 a (fun e tm' hp' n' => match e with | .normal => ∃ y p, φ y ∧ μ y < μ x ∧ Fits tm' hp' (T y) (H y) p ∧ keepIds S0 (H y) p = true | e => K e tm' hp' n') (T x) (H x) n1
  | _, _, _, _, _ => False

theorem vc_region (P : Program) (G : List (FuncId × Abs)) (S0 : List Nat) (id : Nat) (l : List Oper) (dr : Bool) (K : Post) (tm : List AV) (hp : HP) (n : Nat) :
    vc P G S0 (.region id l.toArray dr) K tm hp n = vcOps P G (dstsOf l) dr l n tm hp [] fun tm' hp' fps => (if dr then drawOk l.toArray n fps = true else True) ∧ K .normal tm' hp' (n + 16 * l.length) := by
  rw [vc]
  simp

section
variable (P : Program) (G : List (FuncId × Abs)) (S0 : List Nat) (K : Post) (tm : List AV) (hp : HP) (n : Nat)
theorem vc_skip : vc P G S0 .skip K tm hp n = K .normal tm hp n := by rw [vc]
theorem vc_label (l : Nat) : vc P G S0 (.label l) K tm hp n = K .normal tm hp n := by rw [vc]
theorem vc_ret : vc P G S0 .ret K tm hp n = K .ret tm hp n := by rw [vc]
theorem vc_exit (id : Nat) : vc P G S0 (.exit id) K tm hp n = K (.exit id) tm hp n := by rw [vc]
theorem vc_seq (a b : Code) : vc P G S0 (.seq a b) K tm hp n = vc P G S0 a (fun e tm hp n => match e with | .normal => vc P G S0 b K tm hp n | e => K e tm hp n) tm hp n := by rw [vc]
theorem vc_cond (c : Operand) (a b : Code) : vc P G S0 (.cond c a b) K tm hp n = match boolOf (evA tm c) with
    | some x => if x = true then vc P G S0 a K (refn tm c true) hp n else vc P G S0 b K (refn tm c false) hp n
    | none => False := by rw [vc]
theorem vc_block (id : Nat) (a : Code) : vc P G S0 (.block id a) K tm hp n = vc P G S0 a (fun e tm hp n => match e with | .exit j => if j = id then K .normal tm hp n else K (.exit j) tm hp n | e => K e tm hp n) tm hp n := by rw [vc]
end
section
variable {P : Program} {F : Nat → Prop} {W0 : Ent}

theorem least_of {p : Nat → Prop} (h : ∃ m, p m) : ∃ m, p m ∧ ∀ k, p k → m ≤ k := by
  obtain ⟨m, hm⟩ := h
  induction m using Nat.strongRecOn with
  | _ m ih =>
    rcases Classical.em (∃ k, k < m ∧ p k) with ⟨k, hk, hp⟩ | h
    · exact ih k hk hp
    · exact ⟨m, hm, fun k hk => Nat.le_of_not_lt fun hlt => h ⟨k, hlt, hk⟩⟩

theorem vc_ok {S : List (Nat × Value)} {S0 : List Nat} (hS : S0 = S.map (·.1)) {G : List (FuncId × Abs)} (hG : ∀ p ∈ G, CallOk P p.1 p.2) (hm : P.follows .mixedOrders = true) : ∀ (c : Code) (K : Post) (tm : List AV) (hp : HP) (n : Nat) (a : Act) (w : World) (Q : Exit → Act → World → Prop), vc P G S0 c K tm hp n → Both S F W0 tm (lk hp) n a w →
    (∀ e tm' hp' n' a' w', K e tm' hp' n' → Both S F W0 tm' (lk hp') n' a' w' → Q e a' w') → c.wp P Q a w := by
  intro c
  induction c with
  | skip => intro K tm hp n a w Q h hB hQ; exact wp_skip (hQ _ _ _ _ _ _ h hB)
  | label l => intro K tm hp n a w Q h hB hQ; exact wp_label (hQ _ _ _ _ _ _ h hB)
  | ret => intro K tm hp n a w Q h hB hQ; exact wp_ret (hQ _ _ _ _ _ _ h hB)
  | exit id => intro K tm hp n a w Q h hB hQ; exact wp_exit (hQ _ _ _ _ _ _ h hB)
  | region id ops dr =>
    intro K tm hp n a w Q h hB hQ
    exact vcOps_ok hG hm h hB fun tm' hp' a' w' hk hb => hQ _ _ _ _ _ _ hk hb
  | seq x y ihx ihy =>
    intro K tm hp n a w Q h hB hQ
    refine wp_seq (ihx _ tm hp n a w _ h hB fun e tm' hp' n' a' w' hk hb => ?_)
    cases e with
    | normal => exact ihy K tm' hp' n' a' w' Q hk hb hQ
    | _ => exact hQ _ _ _ _ _ _ hk hb
  | cond c x y ihx ihy =>
    intro K tm hp n a w Q h hB hQ
    rw [vc] at h
    split at h
    · rename_i b hb
      have hb := boolOf_eq hb
      have hev : a.eval c = .bool b := by
        obtain ⟨s, Z, h1, h2, h3⟩ := hB
        have := h2.eval c
        rw [hb] at this
        generalize a.eval c = v at this
        cases this
        rfl
      refine wp_cond hev ?_
      cases b with
      | true =>
        rw [if_pos rfl, refn_same hb] at h
        exact ihx K tm hp n a w Q h hB hQ
      | false =>
        rw [if_neg (by simp), refn_same hb] at h
        exact ihy K tm hp n a w Q h hB hQ
    · exact h.elim
  | block id x ih =>
    intro K tm hp n a w Q h hB hQ
    refine wp_block (ih _ tm hp n a w _ h hB fun e tm' hp' n' a' w' hk hb => ?_)
    cases e with
    | exit j =>
      simp only [Exit.inBlock] at hk ⊢
      split at hk
      · rename_i e; rw [if_pos e]; exact hQ _ _ _ _ _ _ hk hb
      · rename_i e; rw [if_neg e]; exact hQ _ _ _ _ _ _ hk hb
    | _ => exact hQ _ _ _ _ _ _ hk hb
  | loop x ih =>
    intro K tm hp n a w Q h hB hQ
    obtain ⟨α, T, H, φ, μ, n1, hn1, ⟨x0, p0, hx0, hf0, hk0⟩, hround⟩ := h
    subst hS
    let I : Act → World → Prop := fun a w => ∃ x, φ x ∧ Both S F W0 (T x) (lk (H x)) n1 a w
    have ex : ∀ a w, I a w → ∃ m x, μ x = m ∧ φ x ∧ Both S F W0 (T x) (lk (H x)) n1 a w := fun a w ⟨x, h1, h2⟩ => ⟨μ x, x, rfl, h1, h2⟩
    have low : ∀ a w, I a w → ∃ m, (∃ x, μ x = m ∧ φ x ∧ Both S F W0 (T x) (lk (H x)) n1 a w) ∧ ∀ k, (∃ x, μ x = k ∧ φ x ∧ Both S F W0 (T x) (lk (H x)) n1 a w) → m ≤ k := fun a w h => least_of (ex a w h)
    let M : Act → World → Nat := fun a w => open Classical in if h : I a w then Classical.choose (low a w h) else 0
    have least : ∀ a w y, φ y → Both S F W0 (T y) (lk (H y)) n1 a w → M a w ≤ μ y := fun a w y h1 h2 => by
      have hI : I a w := ⟨y, h1, h2⟩
      simp only [M, dif_pos hI]
      exact (Classical.choose_spec (low a w hI)).2 _ ⟨y, rfl, h1, h2⟩
    refine wp_loop I M ⟨x0, hx0, hB.fits hf0 (hn1 x0) hk0⟩ fun a w hI => ?_
    obtain ⟨y, hy1, hy2, hy3⟩ : ∃ y, μ y = M a w ∧ φ y ∧ Both S F W0 (T y) (lk (H y)) n1 a w := by
      simp only [M, dif_pos hI]
      exact (Classical.choose_spec (low a w hI)).1
    refine ih _ (T y) (H y) n1 a w _ (hround y hy2) hy3 fun e tm' hp' n' a' w' hk hb => ?_
    cases e with
    | normal =>
      obtain ⟨z, p, hz1, hz2, hz3, hz4⟩ := hk
      have hb' := hb.fits hz3 (hn1 z) hz4
      exact ⟨⟨z, hz1, hb'⟩, by have := least a' w' z hz1 hb'; omega⟩
    | _ => exact hQ _ _ _ _ _ _ hk hb
  | _ => intro K tm hp n a w Q h; exact h.elim

/-! what a function hands back -/
def resA (P : Program) (hp : HP) (tm : List AV) : ResultVar → Option AV
  | .tmp t => some (tm.getD t (.v undef))
  | .cell t T => match tm.getD t (.v undef) with
    | .ptr r off => match oLoad P (lk hp) T (.ptr r off) with
      | some o => some o.dst
      | none => none
    | _ => none
def resL (P : Program) (hp : HP) (tm : List AV) : List ResultVar → Option (List AV)
  | [] => some []
  | r :: rs => match resA P hp tm r, resL P hp tm rs with | some x, some xs => some (x :: xs) | _, _ => none
def packA : List AV → AV
  | [x] => x
  | xs => .tup xs

theorem oLoad_ptr_c {L : Nat → Blk} {T : TypeId} {r off : Nat} {o : Out} (h : oLoad P L T (.ptr r off) = some o) : o.c ∧ ∃ T' cs, L r = .var T' cs := by
  unfold oLoad at h
  dsimp only at h
  split at h
  · rename_i T' cs hL
    refine ⟨?_, T', cs, hL⟩
    split at h
    · split at h
      · simp at h; subst h; trivial
      · cases h
    · split at h
      · split at h
        · simp at h; subst h; trivial
        · cases h
      · cases h
  · cases h

theorem resA_ok {w : World} {s : Nat → Value} {Z : Nat → Prop} {hp : HP} {tm : List AV} {a : Act} (h1 : HR F W0 w (lk hp) s Z) (h2 : TR w Z (lk hp) s tm a) {r : ResultVar} {x : AV} (h : resA P hp tm r = some x) :
    ∃ v, (match r with | .tmp t => pure (a.tmps.getD t undef) | .cell t T => do loadVar T (← asAddr (a.tmps.getD t undef)) : Sem Value).run P w = .ok v w ∧ AVR w Z (lk hp) s x v := by
  cases r with
  | tmp t =>
    simp [resA] at h
    subst h
    refine ⟨a.tmps.getD t undef, rfl, ?_⟩
    have := h2.eval (.tmp t)
    simpa [evA, Act.eval] using this
  | cell t T =>
    simp only [resA] at h
    show ∃ v, (do loadVar T (← asAddr (a.tmps.getD t undef)) : Sem Value).run P w = .ok v w ∧ _
    split at h
    · rename_i r off hr
      split at h
      · rename_i o ho
        simp at h; subst h
        obtain ⟨hc, T', cs, hL⟩ := oLoad_ptr_c ho
        have hv := h2.eval (.tmp t)
        simp only [evA, Act.eval] at hv
        rw [hr] at hv
        obtain ⟨v, k1, k2, _⟩ := oLoad_ok (P := P) h1 hv ho hc
        refine ⟨v, ?_, k2⟩
        generalize a.tmps.getD t undef = y at hv k1 ⊢
        cases hv with
        | ptr _ _ _ _ _ _ g hs hx => subst hx; simpa [Instr.loadAt, Instr.sureAddr, asAddr] using k1
        | ptrDead _ _ _ hd => rw [hL] at hd; cases hd
      · cases h
    · cases h

theorem resL_ok {w : World} {s : Nat → Value} {Z : Nat → Prop} {hp : HP} {tm : List AV} {a : Act} (h1 : HR F W0 w (lk hp) s Z) (h2 : TR w Z (lk hp) s tm a) : ∀ {rs : List ResultVar} {xs : List AV}, resL P hp tm rs = some xs →
    ∃ vs : List Value, (rs.mapM fun | .tmp t => pure (a.tmps.getD t undef) | .cell t T => do loadVar T (← asAddr (a.tmps.getD t undef)) : Sem (List Value)).run P w = .ok vs w ∧ ARel w Z (lk hp) s xs vs
  | [], xs, h => by simp [resL] at h; subst h; exact ⟨[], by simp, rfl, fun i x y hx => by simp at hx⟩
  | r :: rs, xs, h => by
    simp only [resL] at h
    split at h
    · rename_i x xs' e1 e2
      simp at h; subst h
      obtain ⟨v, k1, k2⟩ := resA_ok (P := P) h1 h2 e1
      obtain ⟨vs, l1, l2, l3⟩ := resL_ok h1 h2 e2
      refine ⟨v :: vs, ?_, by simp [l2], fun i a b ha hb => ?_⟩
      · rw [List.mapM_cons, Sem.run_bind, k1, Result.andThen_ok, Sem.run_bind, l1]
        rfl
      · cases i with
        | zero => simp at ha hb; subst ha; subst hb; exact k2
        | succ i => exact l3 i a b (by simpa using ha) (by simpa using hb)
    · cases h

theorem res_ok {w : World} {s : Nat → Value} {Z : Nat → Prop} {hp : HP} {tm : List AV} {a : Act} (h1 : HR F W0 w (lk hp) s Z) (h2 : TR w Z (lk hp) s tm a) {fn : Func} {xs : List AV} (h : resL P hp tm fn.results.toList = some xs) :
    ∃ v, (results fn a.tmps).run P w = .ok v w ∧ AVR w Z (lk hp) s (packA xs) v := by
  obtain ⟨vs, k1, k2, k3⟩ := resL_ok h1 h2 h
  have hrun : (fn.results.mapM fun | .tmp t => pure (a.tmps.getD t undef) | .cell t T => do loadVar T (← asAddr (a.tmps.getD t undef)) : Sem (Array Value)).run P w = .ok vs.toArray w := by
    rw [Array.mapM_eq_mapM_toList, Sem.run_map, k1]
    rfl
  refine ⟨if h : vs.toArray.size = 1 then vs.toArray[0] else .tuple vs.toArray, ?_, ?_⟩
  · have e : results fn a.tmps = (fn.results.mapM fun | .tmp t => pure (a.tmps.getD t undef) | .cell t T => do loadVar T (← asAddr (a.tmps.getD t undef)) : Sem (Array Value)) >>= fun vs => pure (if h : vs.size = 1 then vs[0] else .tuple vs) := rfl
    rw [e, Sem.run_bind, hrun]
    rfl
  · match xs, vs, k2, k3 with
    | [], [], _, _ => exact .tup [] [] rfl fun i x y hx => by simp at hx
    | [x], [v], _, k3 => exact k3 0 x v rfl rfl
    | x :: y :: xs, u :: v :: vs, k2, k3 =>
      rw [dif_neg (by simp)]
      exact .tup _ _ k2 k3
end
end Go.Proofs.Ytpompkogpdnlcaa
