/- The chapter's example of stage 8 (an empty network), the groups of a Topo; a line's network may be; over the seat's program. -/
import Derived.Test.YtkghcahghmpeiaaGreatDoorMe
import Derived.Test.YtkghcahghmpeiaaGreatDoorNw
import Derived.Test.YtkghcahghmpeiaaGreatDoorGr0
namespace Go.Proofs.YtkghcahghmpeiaaGreatDoor
open Go.RowKit Lx Sm Go.Maps
theorem tgroups_any {b : Nat} {T : TP} {x : Cfg} {gs : List Int} (hg6 : gs.length ≤ 1000000) (w : World) (h : TW w b T x gs) :
    Calls Tryz.prog 12 #[.pointer (some ⟨T.N, 0, none⟩)] w fun e w' => ∃ A c, e = .returned (.slice A gs.length c) ∧ IR CAddr 1 w' A gs.length gs ∧ Below w.heap.size w w' := by
  have hi : IR CAddr 1 w T.gA gs.length gs := own_ir addr_len rfl (by rw [flat_caddr]; exact h.gr)
  have hC := Lib.hid (fun W (hW : Below w.heap.size w W) => copied_taddr T.gA gs.length T.gc gs W (IR.next hi hW) hg6)
  have y : w.cell? ⟨T.N, 11, none⟩ = some (.slice T.gA gs.length T.gc) := h.blk.cell 11
  clear h hi hg6
  go_enter Tryz.func12, Tryz.ntmps12
  go_wp2_with (go_at_call 36; refine (hC.out _ (Below.refl _ _)).mono ?_; rintro e w1 ⟨A, c, rfl, _, _, hi, hb⟩)
  go_ret
  exact ⟨A, c, rfl, hi, hb⟩
def M0 : Cm := ⟨⟨none, 0, 0⟩, ⟨none, 0, 0⟩, ⟨none, 0, 0⟩, ⟨none, 0, 0⟩, ⟨none, 0, 0⟩, ⟨none, 0, 0⟩, ⟨none, 0, 0⟩⟩
def x0 : Cfg := ⟨[], [], [], [], [], [], []⟩
theorem cw0 (w : World) : CW w M0 x0 :=
  ⟨IR.none_ _ _ _ _, IR.none_ _ _ _ _, IR.none_ _ _ _ _, IR.none_ _ _ _ _, IR.none_ _ _ _ _, IR.none_ _ _ _ _, IR.none_ _ _ _ _, ⟨Nat.le_refl _, by decide⟩, ⟨Nat.le_refl _, by decide⟩, ⟨Nat.le_refl _, by decide⟩, ⟨Nat.le_refl _, by decide⟩, ⟨Nat.le_refl _, by decide⟩, ⟨Nat.le_refl _, by decide⟩, ⟨Nat.le_refl _, by decide⟩, fun y hy => (by cases hy),
    ⟨fun y hy => (by cases hy), fun y hy => (by cases hy), fun y hy => (by cases hy), fun y hy => (by cases hy), fun y hy => (by cases hy), fun y hy => (by cases hy)⟩⟩
set_option maxHeartbeats 1000000 in
theorem first8_any (ads : List Addr) (w : World) (hE : EnvC ads w) :
    Calls Tryz.prog 7 #[] w fun e w' => e = .returned (.bool true) ∧ Below w.heap.size w w' := by
  have hN := Lib.hid (new_ok ads M0 x0 [] w hE (cw0 w) (by decide) (fun y hy => (by cases hy)) (fun y hy => (by cases hy)) (fun W _ => groups0_any M0 W rfl rfl) (fun y hy => (by cases hy)) (fun y hy => (by cases hy)))
  go_enter Tryz.func7, Tryz.ntmps7
  go_wp2_with (first
    | (go_at_call 9; refine hN.out.mono ?_; rintro e w1 ⟨T, x', rfl, hT, _, hb⟩; have HG := Lib.hid (tgroups_any (by decide) w1 hT))
    | (go_at_call 12; refine HG.out.mono ?_; rintro e w2 ⟨A, c, rfl, _, hb2⟩))
  go_ret
  exact ⟨rfl, below_next hb hb2⟩
end Go.Proofs.YtkghcahghmpeiaaGreatDoor

