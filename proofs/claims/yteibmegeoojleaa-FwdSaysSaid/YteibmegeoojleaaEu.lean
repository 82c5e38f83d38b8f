/- A region that draws its order and stores into a variable that it has made itself; rows of other types stay. No program is imported. -/
import Derived.Test.YteibmegeoojleaaEa
import Derived.Test.YteibmegeoojleaaAs
namespace Go.Proofs.Yteibmegeoojleaa
open Go.RowKit
/-- what an operation does to the world: the store keeps all below, the variables of its kind, and all blocks of other types; the others keep all that lay there -/
def Kt (B s : Nat) (t : TypeId) (k : Nat) (i : Nat) (w : World) (_ : Value) (w' : World) : Prop := if i = s then (Below B w w' ∧ (∀ g, Slot w g t k → Slot w' g t k) ∧ ∀ g t' cs, t' ≠ t → Blk w g t' cs → Blk w' g t' cs) else Below w.heap.size w w'
section
variable {B s k i : Nat} {t : TypeId} {w w' : World} {v : Value}
theorem Kt.ne (h : Kt B s t k i w v w') (hi : i ≠ s) : Below w.heap.size w w' := by unfold Kt at h; rwa [if_neg hi] at h
theorem Kt.mk (hi : i ≠ s) (h : Below w.heap.size w w') : Kt B s t k i w v w' := by unfold Kt; rw [if_neg hi]; exact h
theorem Kt.mks (h : Below B w w') (h2 : ∀ g, Slot w g t k → Slot w' g t k) (h3 : ∀ g t' cs, t' ≠ t → Blk w g t' cs → Blk w' g t' cs) : Kt B s t k s w v w' := by unfold Kt; rw [if_pos rfl]; exact ⟨h, h2, h3⟩
theorem Kt.slot (h : Kt B s t k i w v w') {g : Nat} (hs : Slot w g t k) : Slot w' g t k := by
  unfold Kt at h
  split at h
  · exact h.2.1 g hs
  · exact hs.next h
theorem Kt.below {W0 : World} (hT : Below W0.heap.size W0 w) (h : Kt W0.heap.size s t k i w v w') : Below W0.heap.size W0 w' := by
  unfold Kt at h
  split at h
  · exact hT.trans h.1
  · exact below_next hT h
theorem Kt.own {b z n : Nat} {e : TypeId} {u : Value} {xs : List Value} (h : Kt B s t k i w v w') (he : e ≠ t) (ho : w.ownsRow b e z u n xs) : w'.ownsRow b e z u n xs := by
  refine ⟨ho.1, ho.2.imp id fun ⟨g, cap, cur, h1, h2, h3, h4⟩ => ⟨g, cap, cur, h1, h2, ?_, h4⟩⟩
  unfold Kt at h
  split at h
  · exact h.2.2 g e cur he h3
  · exact (h.block g (Array.getElem?_eq_some_iff.1 h3).1).trans h3
theorem blk_ne {g g' : Nat} {t' : TypeId} {cs : Array Value} (hs : Slot w g t k) (hb : Blk w g' t' cs) (ht : t' ≠ t) : g' ≠ g := by
  rintro rfl
  obtain ⟨cs0, _, h0⟩ := hs
  unfold Blk at h0 hb
  rw [h0] at hb
  cases hb
  exact ht rfl
end
end Go.Proofs.Yteibmegeoojleaa

