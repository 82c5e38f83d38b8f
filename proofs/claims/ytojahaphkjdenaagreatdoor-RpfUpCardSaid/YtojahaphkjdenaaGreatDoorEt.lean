/- A region that draws its order and stores into a variable that it has made itself: the store is an operation like the others. No program is imported. -/
import Derived.Test.YtojahaphkjdenaaGreatDoorEa
import Derived.Test.YtojahaphkjdenaaGreatDoorAs
namespace Go.Proofs.YtojahaphkjdenaaGreatDoor
open Go.RowKit
/-- what an operation does to the world: the store keeps all below, and the variables of its kind; the others keep all that lay there -/
def Ks (B s : Nat) (t : TypeId) (k : Nat) (i : Nat) (w : World) (_ : Value) (w' : World) : Prop := if i = s then (Below B w w' ∧ ∀ g, Slot w g t k → Slot w' g t k) else Below w.heap.size w w'
section
variable {B s k i : Nat} {t : TypeId} {w w' : World} {v : Value}
theorem Ks.ne (h : Ks B s t k i w v w') (hi : i ≠ s) : Below w.heap.size w w' := by unfold Ks at h; rwa [if_neg hi] at h
theorem Ks.mk (hi : i ≠ s) (h : Below w.heap.size w w') : Ks B s t k i w v w' := by unfold Ks; rw [if_neg hi]; exact h
theorem Ks.mks (h : Below B w w') (h2 : ∀ g, Slot w g t k → Slot w' g t k) : Ks B s t k s w v w' := by unfold Ks; rw [if_pos rfl]; exact ⟨h, h2⟩
theorem Ks.slot (h : Ks B s t k i w v w') {g : Nat} (hs : Slot w g t k) : Slot w' g t k := by
  unfold Ks at h
  split at h
  · exact h.2 g hs
  · exact hs.next h
theorem Ks.below {W0 : World} (hT : Below W0.heap.size W0 w) (h : Ks W0.heap.size s t k i w v w') : Below W0.heap.size W0 w' := by
  unfold Ks at h
  split at h
  · exact hT.trans h.1
  · exact below_next hT h
end
end Go.Proofs.YtojahaphkjdenaaGreatDoor

