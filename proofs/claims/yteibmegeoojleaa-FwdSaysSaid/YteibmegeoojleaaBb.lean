/- Bids of a link: which of two is better, which of some is the best; over the seat's program. -/
import Derived.Test.YteibmegeoojleaaKit
import Derived.Test.YteibmegeoojleaaBytes
import Derived.Deep.Cut
import Derived.Test.YteibmegeoojleaaProg
namespace Go.Proofs.Yteibmegeoojleaa
open Go.RowKit
abbrev Bd := Int × Int
def CBd : Bd → List Value := fun b => [.int .i64 b.1, .int .u32 b.2]
def wfBd : Bd → Prop := fun b => (-9223372036854775808 ≤ b.1 ∧ b.1 ≤ 9223372036854775807) ∧ (0 ≤ b.2 ∧ b.2 ≤ 4294967295)
def beats (p q : Bd) : Bool := if p.1 = q.1 then decide (q.2 < p.2) else decide (q.1 < p.1)
def bestP (xs : List Bd) : Nat → Nat
  | 0 => 0
  | k + 1 => if beats (xs.getD k (0, 0)) (xs.getD (bestP xs k) (0, 0)) then k else bestP xs k
theorem bestP_lt (xs : List Bd) (k : Nat) : bestP xs k ≤ k - 1 := by
  induction k with
  | zero => exact Nat.le_refl _
  | succ k ih => unfold bestP; split <;> omega
theorem bflat_at {α : Type} {enc : α → List Value} {k j : Nat} {v : Value} (hk : ∀ x, (enc x).length = k) : ∀ (ys : List α) (i : Nat) (x : α), ys[i]? = some x → (enc x)[j]? = some v → (ys.flatMap enc)[i * k + j]? = some v
  | [], i, x, h, _ => by simp at h
  | y :: ys, i, x, h, hj => by
    rw [List.flatMap_cons]
    cases i with
    | zero =>
      simp only [List.getElem?_cons_zero, Option.some.injEq] at h
      subst h
      rw [Nat.zero_mul, Nat.zero_add, List.getElem?_append_left (List.getElem?_eq_some_iff.1 hj).1]
      exact hj
    | succ i =>
      simp only [List.getElem?_cons_succ] at h
      rw [List.getElem?_append_right (by rw [hk, Nat.succ_mul]; omega), hk, show (i + 1) * k + j - k = i * k + j by rw [Nat.succ_mul]; omega]
      exact bflat_at hk ys i x h hj
theorem RI.of_blk {α : Type} {enc : α → List Value} {k : Nat} {w : World} {n : Nat} {xs : List α} {g : Nat} {t : TypeId} {cs : Array Value} (hk : ∀ x, (enc x).length = k) (h : Blk w g t cs) (e : cs.toList = xs.flatMap enc) (hn : xs.length = n) :
    RI enc k w (some ⟨g, 0, none⟩) n xs :=
  ⟨hn, fun _ => ⟨g, 0, rfl, h.lt, fun i x hx j v hv => by
    rw [Nat.zero_add, h.cell, ← Array.getElem?_toList, e]
    exact bflat_at hk xs i x hx hv⟩⟩
end Go.Proofs.Yteibmegeoojleaa

