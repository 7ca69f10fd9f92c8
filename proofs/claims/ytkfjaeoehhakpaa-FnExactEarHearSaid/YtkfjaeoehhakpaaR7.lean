import Derived.Test.YtkfjaeoehhakpaaR6
namespace Go.Proofs.Ytkfjaeoehhakpaa
open Go.RowKit
set_option linter.unusedVariables false
theorem fitT_rep {f : Nat → Option Nat} {ks : List Nat} : ∀ (xs : List AV) (n : Nat), xs.length = n → fitT f ks xs (List.replicate n .any)
  | [], _, h => by subst h; exact trivial
  | x :: xs, _, h => by subst h; exact ⟨trivial, fitT_rep xs _ rfl⟩
section
variable {P : Program} {w : World} {Z : Nat → Prop} {L : Nat → Blk} {s : Nat → Value} {F : Nat → Prop} {W0 : Ent}
end
def nilRow : List TK → List D → List D → Prop
  | [], [], [] => True
  | k :: ks, a :: xs, b :: ys => nilC k a b ∧ nilRow ks xs ys
  | _, _, _ => False
theorem nilRow_at : ∀ {cols : List TK} {a b : List D}, nilRow cols a b → b.length = cols.length ∧ ∀ (j : Nat) d k, b[j]? = some d → cols[j]? = some k → ∃ d0, a[j]? = some d0 ∧ nilC k d0 d
  | [], [], [], _ => ⟨rfl, fun j d k h => by simp at h⟩
  | k :: ks, a :: xs, b :: ys, ⟨h1, h2⟩ => by
    obtain ⟨l, h3⟩ := nilRow_at h2
    refine ⟨by simp [l], fun j d k' hd hk => ?_⟩
    cases j with
    | zero => simp at hd hk; subst hd; subst hk; exact ⟨a, rfl, h1⟩
    | succ j => simpa using h3 j d k' (by simpa using hd) (by simpa using hk)
  | [], _ :: _, _, h => h.elim
  | [], [], _ :: _, h => h.elim
  | _ :: _, [], _, h => h.elim
  | _ :: _, _ :: _, [], h => h.elim
theorem SeenAs.rep {sz n : Nat} {cols : List TK} {a b : List D} (h : nilRow cols a b) (hc : cols.length = sz) : SeenAs sz cols (List.replicate n a) (List.replicate n b) := by
  obtain ⟨l, h3⟩ := nilRow_at h
  refine ⟨hc, by simp, fun r hr => ?_, fun i j d k hd hk => ?_⟩
  · obtain ⟨_, rfl⟩ := List.mem_replicate.1 hr
    rw [l, hc]
  · unfold rowAt at hd ⊢
    rw [List.getElem?_replicate] at hd ⊢
    split at hd
    · rename_i hi
      rw [if_pos hi]
      exact h3 j d k (by simpa using hd) hk
    · simp at hd
end Go.Proofs.Ytkfjaeoehhakpaa
