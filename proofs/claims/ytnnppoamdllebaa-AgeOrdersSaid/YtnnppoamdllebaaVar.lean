/- A variable of some cells that may be written whatever it holds: for regions that load, call and store in a drawn order. No program is imported. -/
import Derived.Test.YtnnppoamdllebaaKit
namespace Go.Proofs.Ytnnppoamdllebaa
open Go.RowKit
/-- what lies at a place, as a word that no rule opens -/
def rd (w : World) (p : Addr) : Value := (w.cell? p).getD undef
theorem rd_of {w : World} {p : Addr} {v : Value} (h : w.cell? p = some v) : w.cell? p = some (rd w p) := by unfold rd; rw [h]; rfl
def Slot (w : World) (N : Nat) (t : TypeId) (k : Nat) : Prop := ∃ cs : Array Value, cs.size = k ∧ Blk w N t cs
section
variable {w w' : World} {N k : Nat} {t : TypeId}
theorem Blk.slot {cs : Array Value} (h : Blk w N t cs) : Slot w N t cs.size := ⟨cs, rfl, h⟩
theorem Slot.cell (h : Slot w N t k) {i : Nat} (hi : i < k) : w.cell? ⟨N, i, none⟩ = some (rd w ⟨N, i, none⟩) := by
  obtain ⟨cs, hs, hb⟩ := h
  refine rd_of (v := cs[i]'(by omega)) ?_
  rw [hb.cell i]
  simp
theorem Slot.frozen (h : Slot w N t k) (i : Nat) : w.frozen? ⟨N, i, none⟩ = false := by
  obtain ⟨cs, _, hb⟩ := h
  exact hb.frozen i
theorem Slot.lt (h : Slot w N t k) : N < w.heap.size := by
  obtain ⟨cs, _, hb⟩ := h
  exact hb.lt
theorem Slot.next (h : Slot w N t k) (hb : Below w.heap.size w w') : Slot w' N t k := by
  obtain ⟨cs, hs, hc⟩ := h
  exact ⟨cs, hs, hc.next hb⟩
theorem Slot.store (h : Slot w N t k) (i : Nat) (u : Value) : Slot (w.setCell ⟨N, i, none⟩ u) N t k := by
  obtain ⟨cs, hs, hc⟩ := h
  exact ⟨_, by simp [hs], hc.set_ i u⟩
theorem Slot.far (h : Slot w N t k) {p : Addr} (hp : N ≠ p.block) (u : Value) : Slot (w.setCell p u) N t k := by
  obtain ⟨cs, hs, hc⟩ := h
  exact ⟨cs, hs, hc.far hp u⟩
/-- what a region holds on to: all that lay below, and a variable of its own that it writes -/
def Keep (w : World) (t : TypeId) (k : Nat) (W : World) : Prop := Below w.heap.size w W ∧ Slot W w.heap.size t k
theorem Keep.next (h : Keep w t k w') {w1 : World} (hb : Below w'.heap.size w' w1) : Keep w t k w1 := ⟨h.1.trans (hb.mono h.1.size), h.2.next hb⟩
theorem Keep.drew (h : Keep w t k w') : Keep w t k w'.drew := ⟨h.1.drew, h.2.next (Below.refl _ _).drew⟩
theorem Keep.store (h : Keep w t k w') (i : Nat) (u : Value) : Keep w t k (w'.setCell ⟨w.heap.size, i, none⟩ u) := ⟨h.1.setCell (Nat.le_refl _) u, h.2.store i u⟩
theorem Keep.new (w : World) (t : TypeId) (cs : Array Value) : Keep w t cs.size (w.alloc (.cells cs t)) := ⟨(Below.refl _ _).alloc (Nat.le_refl _) _, (Blk.new _ _ _).slot⟩
theorem Keep.cell (h : Keep w t k w') (i : Nat) (hi : i < k) : w'.cell? ⟨w.heap.size, i, none⟩ = some (rd w' ⟨w.heap.size, i, none⟩) := Slot.cell h.2 hi
theorem Keep.frozen (h : Keep w t k w') (i : Nat) : w'.frozen? ⟨w.heap.size, i, none⟩ = false := Slot.frozen h.2 i
theorem Keep.old (h : Keep w t k w') {p : Addr} {v : Value} (hc : w.cell? p = some v) : w'.cell? p = some v := (h.1.cell (World.block_lt_of_cell? w _ hc)).trans hc
theorem Keep.alloc (h : Keep w t k w') (o : Obj) : Keep w t k (w'.alloc o) := h.next ((Below.refl _ _).alloc (Nat.le_refl _) o)
theorem Keep.far (h : Keep w t k w') {N : Nat} (hn : w.heap.size ≠ N) (hl : w.heap.size ≤ N) (i : Nat) (u : Value) : Keep w t k (w'.setCell ⟨N, i, none⟩ u) := ⟨h.1.setCell (by simpa using hl) u, h.2.far hn u⟩
theorem Keep.far6 (h : Keep w t k w') {N : Nat} (hn : w.heap.size < N) (v0 v1 v2 v3 v4 v5 : Value) : Keep w t k ((((((w'.setCell ⟨N, 0, none⟩ v0).setCell ⟨N, 1, none⟩ v1).setCell ⟨N, 2, none⟩ v2).setCell ⟨N, 3, none⟩ v3).setCell ⟨N, 4, none⟩ v4).setCell ⟨N, 5, none⟩ v5) :=
  have a := Nat.ne_of_lt hn
  have b := Nat.le_of_lt hn
  (((((h.far a b 0 v0).far a b 1 v1).far a b 2 v2).far a b 3 v3).far a b 4 v4).far a b 5 v5
theorem Keep.lt (h : Keep w t k w') : w.heap.size < w'.heap.size := Slot.lt h.2
end
end Go.Proofs.Ytnnppoamdllebaa

