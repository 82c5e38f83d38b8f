/- Plain tries: what is found behind one more that is put. No program is imported. -/
import Derived.Test.YtnnoigdedjbbmaaTn
import Derived.Test.YtnnoigdedjbbmaaTq
namespace Go.Proofs.Ytnnoigdedjbbmaa
open Go.RowKit
namespace Tr
theorem lk_spec (L : Row) (a : Int) (m : Nat) : (lk L a m = none ∧ ∀ j : Nat, j < m → get L (ar a j, (j : Int)) = none) ∨
    ∃ (k : Nat) (xs : List Int), k < m ∧ lk L a m = some (k, xs) ∧ get L (ar a k, (k : Int)) = some xs ∧ ∀ j : Nat, k < j → j < m → get L (ar a j, (j : Int)) = none := by
  induction m with
  | zero => exact .inl ⟨rfl, fun j h => by omega⟩
  | succ m ih =>
    cases hg : get L (ar a m, (m : Int)) with
    | some xs => exact .inr ⟨m, xs, by omega, by simp [lk, hg], hg, fun j h1 h2 => by omega⟩
    | none =>
      have e : lk L a (m + 1) = lk L a m := by simp [lk, hg]
      rw [e]
      rcases ih with ⟨h1, h2⟩ | ⟨k, xs, h1, h2, h3, h4⟩
      · refine .inl ⟨h1, fun j hj => ?_⟩
        by_cases h : j = m
        · subst h; exact hg
        · exact h2 j (by omega)
      · refine .inr ⟨k, xs, by omega, h2, h3, fun j hj hm => ?_⟩
        by_cases h : j = m
        · subst h; exact hg
        · exact h4 j hj (by omega)
def top (L : Row) (a : Int) : Int := match look L a with | none => -1 | some (k, _) => (k : Int)
theorem top_some {L : Row} {a : Int} {k : Nat} {xs : List Int} (h : look L a = some (k, xs)) : top L a = k := by unfold top; rw [h]
theorem top_none {L : Row} {a : Int} (h : look L a = none) : top L a = -1 := by unfold top; rw [h]
theorem top_bd (L : Row) (a : Int) : -1 ≤ top L a ∧ top L a ≤ 32 := by
  rcases lk_spec L a 33 with ⟨h, _⟩ | ⟨k, xs, h1, h2, _⟩
  · rw [top_none h]; omega
  · rw [top_some h2]; omega
theorem isIn_iff (x b a : Int) : Ad.isIn x b a = true ↔ ∃ j : Nat, j ≤ 32 ∧ b = (j : Int) ∧ x = ar a j := by
  constructor
  · intro h
    unfold Ad.isIn Ad.valid Ad.fr at h
    simp only [Bool.and_eq_true, decide_eq_true_eq] at h
    obtain ⟨⟨h1, h2, _⟩, h3⟩ := h
    refine ⟨b.toNat, by omega, by omega, ?_⟩
    unfold ar
    rw [← h3, show 32 - b.toNat = (32 - b).toNat by omega]
  · rintro ⟨j, h1, rfl, rfl⟩
    unfold Ad.isIn
    rw [ar_valid a j h1, Bool.true_and, decide_eq_true_eq]
    unfold ar Ad.fr
    rw [show ((32 : Int) - (j : Int)).toNat = 32 - j by omega]
theorem key_ne {a : Int} {i j : Nat} (h : i ≠ j) : ((ar a j, (j : Int)) : Pf) ≠ (ar a i, (i : Int)) := fun e => by
  simp only [Prod.mk.injEq] at e; omega
theorem putv_in (L : Row) (x b a n : Int) (h : Ad.isIn x b a = true) : (look (putv L (x, b) n) a).isSome = true ∧ top (putv L (x, b) n) a = max (top L a) b := by
  obtain ⟨j, hj, rfl, rfl⟩ := (isIn_iff x b a).1 h
  unfold putv
  rw [if_pos (ar_valid a j hj)]
  have new : get (put L (ar a j, (j : Int)) n) (ar a j, (j : Int)) ≠ none := by rw [get_put, if_pos rfl]; simp
  have old : ∀ i : Nat, i ≠ j → get (put L (ar a j, (j : Int)) n) (ar a i, (i : Int)) = get L (ar a i, (i : Int)) := fun i hi => by rw [get_put, if_neg (key_ne hi)]
  rcases lk_spec (put L (ar a j, (j : Int)) n) a 33 with ⟨_, g2⟩ | ⟨k, xs, g1, g2, g3, g4⟩
  · exact absurd (g2 j (by omega)) new
  · have hjk : j ≤ k := by
      rcases Nat.lt_or_ge k j with h | h
      · exact absurd (g4 j h (by omega)) new
      · exact h
    refine ⟨by unfold look; rw [g2]; rfl, ?_⟩
    rw [top_some g2]
    rcases lk_spec L a 33 with ⟨k1, k2⟩ | ⟨k0, ys, k1, k2, k3, k4⟩
    · rw [top_none k1]
      have : k = j := by
        by_cases h : k = j
        · exact h
        · rw [old k h, k2 k g1] at g3; cases g3
      omega
    · rw [top_some k2]
      have h1 : k0 ≤ k := by
        rcases Nat.lt_or_ge k k0 with h | h
        · have := g4 k0 h k1
          rw [old k0 (by omega), k3] at this; cases this
        · exact h
      have h2 : k = k0 ∨ k = j := by
        by_cases h : k = j
        · exact .inr h
        · left
          rcases Nat.lt_or_ge k0 k with h3 | h3
          · rw [old k h, k4 k h3 g1] at g3; cases g3
          · omega
      omega
theorem putv_out (L : Row) (x b a n : Int) (h : Ad.isIn x b a = false) : look (putv L (x, b) n) a = look L a := by
  unfold putv
  split
  · have hne : ∀ i : Nat, i ≤ 32 → get (put L (x, b) n) (ar a i, (i : Int)) = get L (ar a i, (i : Int)) := fun i hi => by
      rw [get_put, if_neg]
      intro e
      simp only [Prod.mk.injEq] at e
      have := (isIn_iff x b a).2 ⟨i, hi, e.2, e.1⟩
      rw [h] at this; cases this
    have : ∀ m, m ≤ 33 → lk (put L (x, b) n) a m = lk L a m := by
      intro m
      induction m with
      | zero => intro _; rfl
      | succ m ih =>
        intro hm
        unfold lk
        rw [hne m (by omega), ih (by omega)]
    exact this 33 (by omega)
  · rfl
/-- so many were put, each somewhere -/
def Few (k : Nat) (L : Row) : Prop := L.length ≤ k ∧ (∀ p, ((get L p).getD []).length ≤ k) ∧ ∀ p xs, get L p = some xs → xs ≠ []
theorem few_nil : Few 0 [] := ⟨by simp, by simp [get], by simp [get]⟩
theorem few_put {k : Nat} {L : Row} (h : Few k L) (p : Pf) (n : Int) : Few (k + 1) (putv L p n) := by
  obtain ⟨h1, h2, h3⟩ := h
  unfold putv
  split
  · refine ⟨?_, fun q => ?_, fun q xs => ?_⟩
    · rw [put_len]; split <;> omega
    · rw [get_put]
      split
      · have := h2 p; simp; omega
      · have := h2 q; omega
    · rw [get_put]
      split
      · intro e; cases e; simp
      · exact h3 q xs
  · exact ⟨by omega, fun q => by have := h2 q; omega, h3⟩
end Tr
end Go.Proofs.Ytnnoigdedjbbmaa

