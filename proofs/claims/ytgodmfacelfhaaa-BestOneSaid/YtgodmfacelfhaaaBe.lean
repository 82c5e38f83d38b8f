/- Bids of who forwards, plainly: an order; the best is better than all others. -/
import Derived.Test.YtgodmfacelfhaaaBd
namespace Go.Proofs.Ytgodmfacelfhaaa
open Go.RowKit
theorem cheaper_irr (p : Bd) : cheaper p p = false := by simp [cheaper]
theorem cheaper_asym {p q : Bd} (h : cheaper p q = true) : cheaper q p = false := by
  unfold cheaper at h ⊢
  split at h <;> split <;> simp_all <;> omega
theorem cheaper_le {p q r : Bd} (h : cheaper p q = false) (h2 : cheaper q r = false) : cheaper p r = false := by
  unfold cheaper at h h2 ⊢
  split at h <;> split at h2 <;> split <;> simp_all <;> omega
theorem cheaper_tot {p q : Bd} (h : cheaper p q = false) (h2 : cheaper q p = false) : p = q := by
  unfold cheaper at h h2
  apply Prod.ext
  · split at h <;> split at h2 <;> simp_all <;> omega
  · split at h <;> split at h2 <;> simp_all <;> omega
theorem cheaper_trans {p q r : Bd} (h : cheaper p q = true) (h2 : cheaper q r = true) : cheaper p r = true := by
  cases h3 : cheaper p r with
  | true => rfl
  | false => rw [cheaper_le h3 (cheaper_asym h2)] at h; cases h
theorem leastB_max (xs : List Bd) : ∀ n j, j < n → cheaper (xs.getD j (0, 0)) (xs.getD (leastB xs n) (0, 0)) = false
  | 0, j, h => by omega
  | n + 1, j, h => by
    have ih := leastB_max xs n
    unfold leastB
    split
    · rename_i hb
      by_cases hj : j = n
      · subst hj; exact cheaper_irr _
      · exact cheaper_le (ih j (by omega)) (cheaper_asym hb)
    · rename_i hb
      by_cases hj : j = n
      · subst hj; simpa using hb
      · exact ih j (by omega)
theorem leastB_first (xs : List Bd) : ∀ n j, j < leastB xs n → xs.getD j (0, 0) ≠ xs.getD (leastB xs n) (0, 0)
  | 0, j, h => by simp [leastB] at h
  | n + 1, j, h => by
    unfold leastB at h ⊢
    split at h
    · rename_i hb
      rw [if_pos hb]
      intro e
      have := leastB_max xs n j h
      rw [e, hb] at this
      cases this
    · rename_i hb
      rw [if_neg hb]
      exact leastB_first xs n j h
theorem leastB_bd (xs : List Bd) {n : Nat} (h : 0 < n) : leastB xs n < n := by have := leastB_lt xs n; omega
end Go.Proofs.Ytgodmfacelfhaaa

