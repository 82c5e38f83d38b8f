/- The chapter's example of stage 8 (an empty network), the groups of a Topo; a line's network may be; over the seat's program. -/
import Derived.Test.YtboehoflaceohaaGreatDoorMe
import Derived.Test.YtboehoflaceohaaGreatDoorNw
import Derived.Test.YtboehoflaceohaaGreatDoorGr0
namespace Go.Proofs.YtboehoflaceohaaGreatDoor
open Go.RowKit Lx Sm Go.Maps
def M0 : Cm := ⟨⟨none, 0, 0⟩, ⟨none, 0, 0⟩, ⟨none, 0, 0⟩, ⟨none, 0, 0⟩, ⟨none, 0, 0⟩, ⟨none, 0, 0⟩, ⟨none, 0, 0⟩⟩
def x0 : Cfg := ⟨[], [], [], [], [], [], []⟩
theorem cw0 (w : World) : CW w M0 x0 :=
  ⟨IR.none_ _ _ _ _, IR.none_ _ _ _ _, IR.none_ _ _ _ _, IR.none_ _ _ _ _, IR.none_ _ _ _ _, IR.none_ _ _ _ _, IR.none_ _ _ _ _, ⟨Nat.le_refl _, by decide⟩, ⟨Nat.le_refl _, by decide⟩, ⟨Nat.le_refl _, by decide⟩, ⟨Nat.le_refl _, by decide⟩, ⟨Nat.le_refl _, by decide⟩, ⟨Nat.le_refl _, by decide⟩, ⟨Nat.le_refl _, by decide⟩, fun y hy => (by cases hy),
    ⟨fun y hy => (by cases hy), fun y hy => (by cases hy), fun y hy => (by cases hy), fun y hy => (by cases hy), fun y hy => (by cases hy), fun y hy => (by cases hy)⟩⟩
end Go.Proofs.YtboehoflaceohaaGreatDoor

