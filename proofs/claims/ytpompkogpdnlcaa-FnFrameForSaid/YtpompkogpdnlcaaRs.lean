import Derived.Test.YtpompkogpdnlcaaRr
namespace Go.Proofs.Ytpompkogpdnlcaa
open Go.RowKit

abbrev HP := List (Nat × Blk)
def lk : HP → Nat → Blk
  | [], _ => .none
  | (k, b) :: t, r => if r = k then b else lk t r
def upl : HP → Nat → Blk → HP
  | [], r, b => [(r, b)]
  | (k, x) :: t, r, b => if r = k then (k, b) :: t else (k, x) :: upl t r b
theorem lk_upl (hp : HP) (r : Nat) (b : Blk) : lk (upl hp r b) = up (lk hp) r b := by
  induction hp with
  | nil => funext k; simp [lk, upl, up]
  | cons p t ih =>
    obtain ⟨k, x⟩ := p
    funext j
    simp only [upl]
    split
    · rename_i h
      subst h
      simp only [lk, up]
      split <;> rfl
    · rename_i h
      simp only [lk]
      split
      · rename_i h2
        subst h2
        simp only [up, lk]
        rw [if_neg (fun e => h e.symm)]
        simp
      · rename_i h2
        rw [ih]
        simp [up, lk, h2]
def upsl : HP → List (Nat × Blk) → HP
  | hp, [] => hp
  | hp, p :: l => upsl (upl hp p.1 p.2) l
theorem lk_upsl (l : List (Nat × Blk)) : ∀ hp : HP, lk (upsl hp l) = ups (lk hp) l := by
  induction l with
  | nil => intro hp; rfl
  | cons p l ih => intro hp; rw [upsl, ih, lk_upl, ups]

def refn (tm : List AV) (c : Operand) (b : Bool) : List AV := match c with | .tmp t => tm.set t (.v (.bool b)) | _ => tm
def fpD (P : Program) (G : List (FuncId × Abs)) (dr : Bool) (o : Oper) (tm : List AV) (hp : HP) (out : Out) : FP := if dr then fpOf P G o tm (lk hp) out else ([], [])
/-- is an operation wanted: surely, surely not, or as a bool in a slot says -/
inductive Gate where
  | go
  | skip
  | ask (t : Nat) (b want : Bool)
  | stuck
def gate (ds : List (Option Tmp)) (tm : List AV) : Option (Nat × Bool) → Gate
  | none => .go
  | some (j, want) => match ds.getD j none with
    | none => .skip
    | some t => match tm.getD t (.v undef) with
      | .v (.bool b) => .ask t b want
      | .v (.tuple _) => .skip
      | _ => .stuck
def boolOf : AV → Option Bool
  | .v (.bool b) => some b
  | _ => none

mutual
/-- what is to be shown of a region -/
def vcOps (P : Program) (G : List (FuncId × Abs)) (ds : List (Option Tmp)) (dr : Bool) : List Oper → Nat → List AV → HP → List FP → (List AV → HP → List FP → Prop) → Prop
  | [], _, tm, hp, acc, K => K tm hp acc
  | o :: rest, q, tm, hp, acc, K => match gate ds tm o.guard with
    | .go => vcEx P G ds dr o rest q tm hp acc K
    | .skip => vcOps P G ds dr rest (q + 16) (putT tm o.dst (.v undef)) hp (acc ++ [fpD P G dr o tm hp ⟨True, .v undef, []⟩]) K
    | .ask t b want => if b = want then vcEx P G ds dr o rest q (tm.set t (.v (.bool want))) hp acc K
        else vcOps P G ds dr rest (q + 16) (putT (tm.set t (.v (.bool (!want)))) o.dst (.v undef)) hp (acc ++ [fpD P G dr o (tm.set t (.v (.bool (!want)))) hp ⟨True, .v undef, []⟩]) K
    | .stuck => False
termination_by l => (l.length, 0)
/-- one operation that is wanted -/
def vcEx (P : Program) (G : List (FuncId × Abs)) (ds : List (Option Tmp)) (dr : Bool) (o : Oper) (rest : List Oper) (q : Nat) (tm : List AV) (hp : HP) (acc : List FP) (K : List AV → HP → List FP → Prop) : Prop :=
  match o.op with
  | .pick c x y => match boolOf (evA tm c) with
    | some b => if b = true then vcOps P G ds dr rest (q + 16) (putT (refn tm c true) o.dst (evA (refn tm c true) x)) hp (acc ++ [fpD P G dr o (refn tm c true) hp ⟨True, evA (refn tm c true) x, []⟩]) K
        else vcOps P G ds dr rest (q + 16) (putT (refn tm c false) o.dst (evA (refn tm c false) y)) hp (acc ++ [fpD P G dr o (refn tm c false) hp ⟨True, evA (refn tm c false) y, []⟩]) K
    | none => False
  | op => match oOp P G op (evA tm) (lk hp) q with
    | some out => out.c ∧ (out.ups.all fun p => decide (p.1 < q + 16)) = true ∧ vcOps P G ds dr rest (q + 16) (putT tm o.dst out.dst) (upsl hp out.ups) (acc ++ [fpD P G dr o tm hp out]) K
    | none => False
termination_by (rest.length, 1)
end
/-- a region that draws its order may -/
def drawOk (ops : Array Oper) (q0 : Nat) (fps : List FP) : Bool := ordOk ops && (tmpOk ops && fpOk ops q0 fps)
def dstsOf (l : List Oper) : List (Option Tmp) := l.map (·.dst)

section
variable {P : Program} {G : List (FuncId × Abs)} {ops : Array Oper} {q0 : Nat}

theorem set_same {tm : List AV} {t : Nat} {x : AV} (h : tm.getD t (.v undef) = x) (hx : ∀ y, x ≠ .v (.tuple y)) : tm.set t x = tm := by
  by_cases ht : t < tm.length
  · have : tm[t] = x := by simpa [List.getD, List.getElem?_eq_getElem ht] using h
    rw [← this]
    exact List.set_getElem_self ht
  · have : tm.getD t (.v undef) = .v undef := by simp [List.getD, List.getElem?_eq_none (Nat.le_of_not_lt ht)]
    rw [this] at h
    exact absurd h.symm (hx #[])

theorem dsts_at (j : Nat) : (dstsOf ops.toList).getD j none = (ops[j]?).bind (·.dst) := by
  simp only [dstsOf, List.getD, List.getElem?_map, Array.getElem?_toList]
  cases ops[j]? <;> rfl

theorem boolOf_eq {x : AV} {b : Bool} (h : boolOf x = some b) : x = .v (.bool b) := by
  unfold boolOf at h
  split at h
  · simp at h; subst h; rfl
  · cases h

theorem gate_run {tm : List AV} {g : Option (Nat × Bool)} : match gate (dstsOf ops.toList) tm g with
    | .go => guardA ops tm g = some true
    | .skip => guardA ops tm g = some false
    | .ask t b want => guardA ops tm g = some (b == want) ∧ tm.getD t (.v undef) = .v (.bool b)
    | .stuck => True := by
  unfold gate guardA
  split
  · rename_i h
    split at h
    · rfl
    · rename_i j want
      rw [dsts_at] at h
      split at h
      · cases h
      · split at h <;> cases h
  · rename_i h
    split at h
    · cases h
    · rename_i j want
      rw [dsts_at] at h
      dsimp only
      split at h
      · rename_i hd; rw [hd]
      · rename_i t hd
        rw [hd]
        dsimp only
        split at h
        · cases h
        · rename_i hy; rw [hy]
        · cases h
  · rename_i t b want h
    split at h
    · cases h
    · rename_i j want'
      rw [dsts_at] at h
      dsimp only
      split at h
      · cases h
      · rename_i t' hd
        rw [hd]
        dsimp only
        split at h
        · rename_i b' hb
          cases h
          rw [hb]
          exact ⟨rfl, rfl⟩
        · cases h
        · cases h
  · trivial

theorem refn_same {tm : List AV} {c : Operand} {b : Bool} (hb : evA tm c = .v (.bool b)) : refn tm c b = tm := by
  unfold refn
  split
  · rename_i t
    exact set_same hb (by simp)
  · rfl

theorem vcOps_run {dr : Bool} : ∀ (l : List Oper) (k q : Nat) (tm : List AV) (hp : HP) (acc : List FP) (K : List AV → HP → List FP → Prop), q = q0 + 16 * k → vcOps P G (dstsOf ops.toList) dr l q tm hp acc K →
    ∃ outs tm' hp', Tr P G ops q0 l k tm (lk hp) outs tm' (lk hp') ∧ ∃ fps, K tm' hp' fps ∧ (dr = true → fps = acc ++ outs.map (·.2))
  | [], k, q, tm, hp, acc, K, hq, h => by
    rw [vcOps] at h
    exact ⟨[], tm, hp, ⟨rfl, rfl, rfl⟩, acc, h, fun _ => by simp⟩
  | o :: l, k, q, tm, hp, acc, K, hq, h => by
    subst hq
    have one : ∀ (out : Out), stepA P G ops o tm (lk hp) (q0 + 16 * k) = some out → out.c → (out.ups.all fun p => decide (p.1 < q0 + 16 * k + 16)) = true →
        vcOps P G (dstsOf ops.toList) dr l (q0 + 16 * k + 16) (putT tm o.dst out.dst) (upsl hp out.ups) (acc ++ [fpD P G dr o tm hp out]) K →
        ∃ outs tm' hp', Tr P G ops q0 (o :: l) k tm (lk hp) outs tm' (lk hp') ∧ ∃ fps, K tm' hp' fps ∧ (dr = true → fps = acc ++ outs.map (·.2)) := by
      intro out h1 h2 h3 h4
      obtain ⟨outs, tm', hp', g1, fps, g2, g3⟩ := vcOps_run l (k + 1) _ _ _ _ _ (by omega) h4
      refine ⟨(out, fpOf P G o tm (lk hp) out) :: outs, tm', hp', ⟨out, outs, rfl, h1, h2, (by rw [show q0 + 16 * (k + 1) = q0 + 16 * k + 16 by omega]; exact h3), by rw [← lk_upsl]; exact g1⟩, fps, g2, fun hdr => ?_⟩
      rw [g3 hdr]
      simp [fpD, hdr]
    have skip : guardA ops tm o.guard = some false → vcOps P G (dstsOf ops.toList) dr l (q0 + 16 * k + 16) (putT tm o.dst (.v undef)) hp (acc ++ [fpD P G dr o tm hp ⟨True, .v undef, []⟩]) K →
        ∃ outs tm' hp', Tr P G ops q0 (o :: l) k tm (lk hp) outs tm' (lk hp') ∧ ∃ fps, K tm' hp' fps ∧ (dr = true → fps = acc ++ outs.map (·.2)) :=
      fun hg h => one ⟨True, .v undef, []⟩ (by unfold stepA; rw [hg]) trivial rfl h
    have go : guardA ops tm o.guard = some true → vcEx P G (dstsOf ops.toList) dr o l (q0 + 16 * k) tm hp acc K →
        ∃ outs tm' hp', Tr P G ops q0 (o :: l) k tm (lk hp) outs tm' (lk hp') ∧ ∃ fps, K tm' hp' fps ∧ (dr = true → fps = acc ++ outs.map (·.2)) := by
      intro hg h
      rw [vcEx] at h
      split at h
      · rename_i c x y hop
        split at h
        · rename_i b hb
          have hb := boolOf_eq hb
          split at h
          · rename_i e
            subst e
            rw [refn_same hb] at h
            exact one ⟨True, evA tm x, []⟩ (by unfold stepA; rw [hg]; simp only [hop, hb]; rfl) trivial rfl h
          · rename_i e
            have e : b = false := by simpa using e
            subst e
            rw [refn_same hb] at h
            exact one ⟨True, evA tm y, []⟩ (by unfold stepA; rw [hg]; simp only [hop, hb]; rfl) trivial rfl h
        · exact h.elim
      · rename_i hop
        split at h
        · rename_i out ho
          refine one out ?_ h.1 h.2.1 h.2.2
          unfold stepA
          rw [hg]
          split
          · rename_i e; cases e
          · rename_i e; cases e
          · split
            · rename_i c x y he; exact absurd he (hop c x y)
            · exact ho
        · exact h.elim
    rw [vcOps] at h
    have hgate := gate_run (ops := ops) (tm := tm) (g := o.guard)
    split at h
    · rename_i e; rw [e] at hgate; exact go hgate h
    · rename_i e; rw [e] at hgate; exact skip hgate h
    · rename_i t b want e
      rw [e] at hgate
      obtain ⟨h1, h2⟩ := hgate
      split at h
      · rename_i hb
        subst hb
        rw [set_same h2 (by simp)] at h
        exact go (by rw [h1, beq_self_eq_true]) h
      · rename_i hb
        have e' : (!want) = b := by cases b <;> cases want <;> simp_all
        rw [e', set_same h2 (by simp)] at h
        exact skip (by rw [h1, beq_eq_false_iff_ne.2 hb]) h
    · exact h.elim

theorem Tr.seq : ∀ {l : List Oper} {k : Nat} {tm tm' : List AV} {L L' : Nat → Blk} {outs : List (Out × FP)}, Tr P G ops q0 l k tm L outs tm' L' → SeqA P G ops q0 l k tm L (fun a b => a = tm' ∧ b = L')
  | [], _, _, _, _, _, _, ⟨_, h2, h3⟩ => ⟨h2.symm, h3.symm⟩
  | _ :: _, _, _, _, _, _, _, ⟨out, _, _, h1, h2, h3, h4⟩ => ⟨out, h1, h2, h3, Tr.seq h4⟩

/-- a region -/
theorem vcOps_ok {S : List (Nat × Value)} {F : Nat → Prop} {W0 : Ent} (hG : ∀ p ∈ G, CallOk P p.1 p.2) (hm : P.follows .mixedOrders = true) {dr : Bool} {tm : List AV} {hp : HP} {a : Act} {w : World} {id : Nat} {K : List AV → HP → Prop} {Q : Exit → Act → World → Prop}
    (h : vcOps P G (dstsOf ops.toList) dr ops.toList q0 tm hp [] fun tm' hp' fps => (if dr then drawOk ops q0 fps = true else True) ∧ K tm' hp') (hB : Both S F W0 tm (lk hp) q0 a w)
    (hQ : ∀ tm' hp' a w, K tm' hp' → Both S F W0 tm' (lk hp') (q0 + 16 * ops.size) a w → Q .normal a w) : (Code.region id ops dr).wp P Q a w := by
  obtain ⟨outs, tm', hp', h1, fps, ⟨h2, h3⟩, h4⟩ := vcOps_run (q0 := q0) _ 0 _ _ _ _ _ (by omega) h
  cases dr with
  | true =>
    simp only [if_true, drawOk, Bool.and_eq_true] at h2
    obtain ⟨k1, k2, k3⟩ := h2
    rw [h4 rfl, List.nil_append] at k3
    exact Tr.draws hG hm h1 k1 k2 k3 hB fun a w hb => hQ tm' hp' a w h3 hb
  | false =>
    refine wp_region ?_
    have := SeqA.wp hG (Q := Q) (K := fun a b => a = tm' ∧ b = lk hp') (F := F) (W0 := W0) (fun tm2 L2 a w hk hb => ?_) ops.toList 0 tm (lk hp) a w (by simp) (Nat.zero_le _) h1.seq hB
    · rw [List.range_eq_range']
      simpa using this
    · obtain ⟨rfl, rfl⟩ := hk
      exact hQ _ hp' a w h3 hb
end
end Go.Proofs.Ytpompkogpdnlcaa
