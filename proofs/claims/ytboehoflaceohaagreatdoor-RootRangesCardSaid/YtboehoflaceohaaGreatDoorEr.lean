/- The errors that a network's checks can tell: where they lie; the error of a number. Condition: each of the seven lies in its variable, a pointer. -/
import Derived.Test.YtboehoflaceohaaGreatDoorSentP
import Derived.Test.YtboehoflaceohaaGreatDoorKit
import Derived.Below
namespace Go.Proofs.YtboehoflaceohaaGreatDoor
open Go.RowKit
def erS (ads : List Addr) (c : Int) : Value := if c = 0 then .nilIface else ev (ads.getD (c - 101).toNat ⟨0, 0, none⟩)
def IsC (c : Int) : Prop := c = 0 ∨ ∃ j : Nat, j < 14 ∧ c = 101 + (j : Int)
/-- the seven that conf can tell, by their places among all -/
def errC : List (Nat × Nat) := [(2, 1), (3, 5), (8, 6), (9, 0), (10, 3), (11, 4), (12, 2)]
def EnvC (ads : List Addr) (w : World) : Prop :=
  ads.length = 14 ∧ (∀ (j g : Nat) (a : Addr), errC.lookup j = some g → ads[j]? = some a → w.cell? ⟨g, 0, none⟩ = some (ev a)) ∧ ∀ a ∈ ads, ∃ c t, w.heap[a.block]? = some (.cells c t (0, 0))
theorem EnvC.below {ads : List Addr} {w w' : World} (h : EnvC ads w) (hb : Below w.heap.size w w') : EnvC ads w' := by
  obtain ⟨h1, h3, h4⟩ := h
  refine ⟨h1, fun i g a hg ha => (hb.cell (World.block_lt_of_cell? w _ (h3 i g a hg ha))).trans (h3 i g a hg ha), fun a ha => ?_⟩
  obtain ⟨c, t, hh⟩ := h4 a ha
  refine ⟨c, t, (hb.block a.block ?_).trans hh⟩
  rcases Nat.lt_or_ge a.block w.heap.size with hlt | hge
  · exact hlt
  · rw [Array.getElem?_eq_none hge] at hh; cases hh
theorem erS_of {ads : List Addr} (h : ads.length = 14) {j : Nat} (hj : j < 14) : ∃ a, ads[j]? = some a ∧ erS ads (101 + (j : Int)) = ev a := by
  have h3 : ads[j]? = some (ads[j]'(by rw [h]; omega)) := by simp [h, hj]
  refine ⟨_, h3, ?_⟩
  unfold erS
  rw [if_neg (by omega), show (101 + (j : Int) - 101).toNat = j by omega]
  simp [List.getD, h, hj]
theorem erS_at {ads : List Addr} {w : World} (hS : EnvC ads w) {j : Nat} (hj : j < 14) : ∃ a, ads[j]? = some a ∧ erS ads (101 + (j : Int)) = ev a := erS_of hS.1 hj
theorem erS_cell {ads : List Addr} {w : World} (hS : EnvC ads w) {j g : Nat} (hj : j < 14) (hg : errC.lookup j = some g) : w.cell? ⟨g, 0, none⟩ = some (erS ads (101 + (j : Int))) := by
  obtain ⟨a, h1, h2⟩ := erS_at hS hj
  rw [h2]
  exact hS.2.1 j g a hg h1
end Go.Proofs.YtboehoflaceohaaGreatDoor

