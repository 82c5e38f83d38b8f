/- The document's places of ports and members over a network in memory: On, Of, Members, At; over the seat's program. The document's places of ports and members over a network in memory: On, Of, Members, At; over the seat's program. -/
import Derived.Test.YtboehoflaceohaaGreatDoorCw
import Derived.Test.YtboehoflaceohaaGreatDoorJr
import Derived.OwnWalk
namespace Go.Proofs.YtboehoflaceohaaGreatDoor
open Go.RowKit Lx
/-- the places, of the first n, at which something holds, rising -/
def picks {α : Type} (p : α → Bool) (xs : List α) : Nat → List Int
  | 0 => []
  | n + 1 => picks p xs n ++ (match xs[n]? with | some x => if p x then [(n : Int)] else [] | none => [])
theorem picks_yes {α : Type} {p : α → Bool} {xs : List α} {n : Nat} {x : α} (h : xs[n]? = some x) (hp : p x = true) : picks p xs (n + 1) = picks p xs n ++ [(n : Int)] := by
  show _ ++ _ = _; rw [h]; simp [hp]
theorem picks_no {α : Type} {p : α → Bool} {xs : List α} {n : Nat} {x : α} (h : xs[n]? = some x) (hp : p x = false) : picks p xs (n + 1) = picks p xs n := by
  show _ ++ _ = _; rw [h]; simp [hp]
theorem picks_len {α : Type} (p : α → Bool) (xs : List α) (n : Nat) : (picks p xs n).length ≤ n := by
  induction n with
  | zero => simp [picks]
  | succ n ih =>
    unfold picks
    rw [List.length_append]
    split
    · split <;> simp <;> omega
    · simp; omega
/-- the first place at which something holds, or -1 -/
def firstAt {α : Type} (p : α → Bool) (xs : List α) : Int := match picks p xs xs.length with | [] => -1 | i :: _ => i
end Go.Proofs.YtboehoflaceohaaGreatDoor
namespace Go.Proofs.YtboehoflaceohaaGreatDoor
open Go.RowKit Lx
end Go.Proofs.YtboehoflaceohaaGreatDoor

