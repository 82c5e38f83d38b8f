/- The least of addresses, a router's turn a tick later; over the seat's program. -/
import Derived.Test.YtdljpokhcfhhfaaGreatDoorAs
import Derived.Test.YtdljpokhcfhhfaaGreatDoorKit
import Derived.Test.YtdljpokhcfhhfaaGreatDoorBytes
import Derived.Deep.Cut
import Derived.Test.YtdljpokhcfhhfaaGreatDoorProg
namespace Go.Proofs.YtdljpokhcfhhfaaGreatDoor
open Go.RowKit Sm
def leastP (xs : List Int) : Nat → Nat
  | 0 => 0
  | k + 1 => if xs.getD k 0 < xs.getD (leastP xs k) 0 then k else leastP xs k
theorem leastP_lt (xs : List Int) (k : Nat) : leastP xs k ≤ k - 1 := by
  induction k with
  | zero => exact Nat.le_refl _
  | succ k ih => unfold leastP; split <;> omega
theorem leastP_all (xs : List Int) : ∀ k, (∀ i, i < k → ¬ xs.getD i 0 < xs.getD (leastP xs k) 0) ∧ (∀ i, i < leastP xs k → xs.getD (leastP xs k) 0 < xs.getD i 0)
  | 0 => ⟨fun i hi => by omega, fun i hi => by unfold leastP at hi; omega⟩
  | k + 1 => by
    obtain ⟨h1, h2⟩ := leastP_all xs k
    have hq := leastP_lt xs k
    unfold leastP
    by_cases h : xs.getD k 0 < xs.getD (leastP xs k) 0
    · rw [if_pos h]
      refine ⟨fun i hi => ?_, fun i hi => ?_⟩
      · rcases Nat.lt_or_ge i k with hi | hi
        · have := h1 i hi; omega
        · obtain rfl : i = k := by omega
          omega
      · have := h1 i hi; omega
    · rw [if_neg h]
      refine ⟨fun i hi => ?_, h2⟩
      rcases Nat.lt_or_ge i k with hi | hi
      · exact h1 i hi
      · obtain rfl : i = k := by omega
        exact h
theorem leastP_app (xs : List Int) (a : Int) : ∀ k, k ≤ xs.length → leastP (xs ++ [a]) k = leastP xs k
  | 0, _ => rfl
  | k + 1, h => by
    have ih := leastP_app xs a k (by omega)
    have hq := leastP_lt xs k
    have e1 : (xs ++ [a]).getD k 0 = xs.getD k 0 := by simp [List.getD_eq_getElem?_getD, List.getElem?_append_left (show k < xs.length by omega)]
    have e2 : (xs ++ [a]).getD (leastP xs k) 0 = xs.getD (leastP xs k) 0 := by simp [List.getD_eq_getElem?_getD, List.getElem?_append_left (show leastP xs k < xs.length by omega)]
    unfold leastP
    rw [ih, e1, e2]
/-- the least address is less than one's own -/
def lessP (xs : List Int) (own : Int) : Bool := decide (0 < xs.length) && decide (xs.getD (leastP xs xs.length) 0 < own)
/-- a router's turn a tick later: whether it asks, for how long it leaves that to another one -/
def qstepP (o own : Int) (xs : List Int) : Int × Int :=
  if lessP xs own = true then (0, 3) else if max o 1 - 1 > 0 then (0, max o 1 - 1) else (1, 0)
theorem lessP_of {xs : List Int} {n : Nat} (h : xs.length = n) (own : Int) : lessP xs own = (decide (0 < n) && decide (xs.getD (leastP xs n) 0 < own)) := by subst h; rfl
theorem qstore2 {W : World} {N b : Nat} {t : TypeId} {u0 u1 : Value} (h : Blk W N t #[u0, u1]) (hN : b ≤ N) (w : World) (hB : Below b w W) (v0 v1 : Value) : ∃ W2, W2 = (W.setCell ⟨N, 0, none⟩ v0).setCell ⟨N, 1, none⟩ v1 ∧ W2.cell? ⟨N, 0, none⟩ = some v0 ∧ W2.cell? ⟨N, 1, none⟩ = some v1 ∧ Below b w W2 := by
  have hk : Blk ((W.setCell ⟨N, 0, none⟩ v0).setCell ⟨N, 1, none⟩ v1) N t #[v0, v1] := (h.set_ 0 v0).set_ 1 v1
  exact ⟨_, rfl, hk.cell 0, hk.cell 1, (hB.setCell (by simpa using hN) _).setCell (by simpa using hN) _⟩
/-- the two blocks that a step lays: its turn, its answer -/
theorem step_new (w : World) (a b : Value) (t t' : TypeId) : ∃ W1, W1 = (w.alloc (.cells #[a, b] t)).alloc (.cells #[.int .i64 0, .int .i64 0] t') ∧ Below w.heap.size w W1 ∧ w.heap.size + 1 < W1.heap.size ∧ W1.cell? ⟨w.heap.size, 1, none⟩ = some b ∧ Blk W1 (w.heap.size + 1) t' #[.int .i64 0, .int .i64 0] := by
  refine ⟨_, rfl, ((Below.refl _ _).alloc (Nat.le_refl _) _).alloc (by simp) _, by simp, by go_simp, ?_⟩
  have := Blk.new (w.alloc (.cells #[a, b] t)) t' #[.int .i64 0, .int .i64 0]
  simpa using this
end Go.Proofs.YtdljpokhcfhhfaaGreatDoor

