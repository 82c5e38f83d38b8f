/- Bids, plainly: an order; the best is better than all others. -/
import Derived.Test.YtdljpokhcfhhfaaGreatDoorBb
namespace Go.Proofs.YtdljpokhcfhhfaaGreatDoor
open Go.RowKit
theorem beats_irr (p : Bd) : beats p p = false := by simp [beats]
theorem beats_asym {p q : Bd} (h : beats p q = true) : beats q p = false := by
  unfold beats at h ⊢
  split at h <;> split <;> simp_all <;> omega
theorem beats_le {p q r : Bd} (h : beats p q = false) (h2 : beats q r = false) : beats p r = false := by
  unfold beats at h h2 ⊢
  split at h <;> split at h2 <;> split <;> simp_all <;> omega
theorem beats_tot {p q : Bd} (h : beats p q = false) (h2 : beats q p = false) : p = q := by
  unfold beats at h h2
  apply Prod.ext
  · split at h <;> split at h2 <;> simp_all <;> omega
  · split at h <;> split at h2 <;> simp_all <;> omega
theorem beats_trans {p q r : Bd} (h : beats p q = true) (h2 : beats q r = true) : beats p r = true := by
  cases h3 : beats p r with
  | true => rfl
  | false => rw [beats_le h3 (beats_asym h2)] at h; cases h
theorem bestP_max (xs : List Bd) : ∀ n j, j < n → beats (xs.getD j (0, 0)) (xs.getD (bestP xs n) (0, 0)) = false
  | 0, j, h => by omega
  | n + 1, j, h => by
    have ih := bestP_max xs n
    unfold bestP
    split
    · rename_i hb
      by_cases hj : j = n
      · subst hj; exact beats_irr _
      · exact beats_le (ih j (by omega)) (beats_asym hb)
    · rename_i hb
      by_cases hj : j = n
      · subst hj; simpa using hb
      · exact ih j (by omega)
theorem bestP_first (xs : List Bd) : ∀ n j, j < bestP xs n → xs.getD j (0, 0) ≠ xs.getD (bestP xs n) (0, 0)
  | 0, j, h => by simp [bestP] at h
  | n + 1, j, h => by
    unfold bestP at h ⊢
    split at h
    · rename_i hb
      rw [if_pos hb]
      intro e
      have := bestP_max xs n j h
      rw [e, hb] at this
      cases this
    · rename_i hb
      rw [if_neg hb]
      exact bestP_first xs n j h
theorem bestP_bd (xs : List Bd) {n : Nat} (h : 0 < n) : bestP xs n < n := by have := bestP_lt xs n; omega
end Go.Proofs.YtdljpokhcfhhfaaGreatDoor

