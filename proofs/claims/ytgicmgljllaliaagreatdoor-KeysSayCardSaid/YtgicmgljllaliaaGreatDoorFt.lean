/- What turns rows of one type alone: new blocks, appends to a row of that type; a network beside it stays. -/
import Derived.Test.YtgicmgljllaliaaGreatDoorCl0
import Derived.Test.YtgicmgljllaliaaGreatDoorMe
import Derived.Test.YtgicmgljllaliaaGreatDoorNw
import Derived.Test.YtgicmgljllaliaaGreatDoorGr
import Derived.Test.YtgicmgljllaliaaGreatDoorTn
namespace Go.Proofs.YtgicmgljllaliaaGreatDoor
open Go.RowKit Lx Sm Go.Maps
structure FrT (t0 : TypeId) (W W' : World) : Prop where
  size : W.heap.size ≤ W'.heap.size
  old : ∀ g t cs, Blk W g t cs → t ≠ t0 → W'.heap[g]? = W.heap[g]?
section
variable {t0 : TypeId} {W W' W'' : World} {b : Nat} {M : Cm} {x : Cfg}
theorem FrT.refl (t0 : TypeId) (W : World) : FrT t0 W W := ⟨Nat.le_refl _, fun _ _ _ _ _ => rfl⟩
theorem FrT.trans (h : FrT t0 W W') (k : FrT t0 W' W'') : FrT t0 W W'' := ⟨Nat.le_trans h.size k.size, fun g t cs hb h1 => (k.old g t cs ((h.old g t cs hb h1).trans hb) h1).trans (h.old g t cs hb h1)⟩
theorem FrT.below (h : Below W.heap.size W W') : FrT t0 W W' := ⟨h.size, fun g _ _ hb _ => h.block g hb.lt⟩
theorem FrT.blk {g : Nat} {t : TypeId} {cs : Array Value} (h : FrT t0 W W') (hb : Blk W g t cs) (h1 : t ≠ t0) : Blk W' g t cs := (h.old g t cs hb h1).trans hb
theorem FrT.own {t : TypeId} {k n : Nat} {v : Value} {ys : List Value} (h : FrT t0 W W') (ho : W.ownsRow b t k v n ys) (h1 : t ≠ t0) : W'.ownsRow b t k v n ys := by
  refine ⟨ho.1, ?_⟩
  rcases ho.2 with hn | ⟨g, cap, cur, rfl, hbg, hh, rest⟩
  · exact .inl hn
  · exact .inr ⟨g, cap, cur, rfl, hbg, (h.old g t cur hh h1).trans hh, rest⟩
/-- an append to a row of that type -/
theorem FrT.grown {b' k n : Nat} {v : Value} {ys : List Value} (ho : W.ownsRow b' t0 k v n ys) (hg : W.grownBy W' v.ownBlock) : FrT t0 W W' := by
  refine ⟨hg.size, fun g t cs hb ht => hg.block g hb.lt fun e => ?_⟩
  rcases ho.2 with ⟨rfl, _⟩ | ⟨g2, cap, cur, rfl, _, hh, _⟩
  · cases e
  · have : g = g2 := by cases e; rfl
    subst this
    have hb' : W.heap[g]? = some (.cells cs t (0, 0)) := hb
    rw [hb'] at hh
    cases hh
    exact ht rfl
theorem CWo.frT (h : CWo W b M x) (k : FrT t0 W W') (h1 : 89 ≠ t0) (h2 : 94 ≠ t0) (h3 : 69 ≠ t0) (h4 : 98 ≠ t0) (h5 : 101 ≠ t0) (h6 : 55 ≠ t0) (h7 : 58 ≠ t0) (h8 : 42 ≠ t0) : CWo W' b M x :=
  ⟨k.own h.r h1, k.own h.l h2, k.own h.p h3, k.own h.o h4, k.own h.g h5, k.own h.s h6, k.own h.m h7, h.len, h.oks, fun y hy => ⟨(h.src y hy).1, (h.src y hy).2.1, (h.src y hy).2.2.1, k.own (h.src y hy).2.2.2 h8⟩, h.ok⟩
end
theorem tgroups_own {b : Nat} {T : TP} {x : Cfg} {gs : List Int} (hg6 : gs.length ≤ 1000000) (w : World) (h : TW w b T x gs) :
    Calls Tryz.prog 28 #[.pointer (some ⟨T.N, 0, none⟩)] w fun e w' => ∃ A c, e = .returned (.slice A gs.length c) ∧ w'.ownsRow w.heap.size 42 1 (.slice A gs.length c) gs.length (gs.flatMap CAddr) ∧ Below w.heap.size w w' := by
  have hi : IR CAddr 1 w T.gA gs.length gs := own_ir addr_len rfl (by rw [flat_caddr]; exact h.gr)
  have hC := Lib.hid (fun W (hW : Below w.heap.size w W) => copied_taddr T.gA gs.length T.gc gs W (IR.next hi hW) hg6)
  have y : w.cell? ⟨T.N, 11, none⟩ = some (.slice T.gA gs.length T.gc) := h.blk.cell 11
  clear h hi hg6
  go_enter Tryz.func28, Tryz.ntmps28
  go_wp2_with (go_at_call 57; refine (hC.out _ (Below.refl _ _)).mono ?_; rintro e w1 ⟨A, c, rfl, _, ho, _, hb⟩)
  go_ret
  exact ⟨A, c, rfl, ho, hb⟩
end Go.Proofs.YtgicmgljllaliaaGreatDoor

