/-
  DERIVED. GIVEN WITH THE SEED: THE CARDS: each row of YtkghcahghmpeiaaGreatDoorRows.lean that lists a variable, with what it lists TIED to the program's text (the seventh form; the later family's looks); each row that meets fmt, with fmt's text TOLD by the authors' own Lean function (tested against real Go, not proved from fmt's source: count such statements apart). THE CARD IS WHAT COUNTS. Prove the row's statement (the work); the ties are given (YtkghcahghmpeiaaGreatDoorTie.lean); close each card by the builder's one call (the guide's Derived/Test/ToyasCard.lean, 'card_holds'). Laid BY PROGRAM, IN A SANDBOX (cutbox-door.mjs). By AI agents, Wed Nov 11 2026. No macro, syntax, notation, axiom, sorry.
-/
import Derived.Test.YtkghcahghmpeiaaGreatDoorRows
import GoSem.ClaimSeven
namespace Go.Proofs.YtkghcahghmpeiaaGreatDoor
namespace Rows

/-- THE TIED CARD OF 'rivuletlaw8.TopoGroups'. -/
def topoGroupsCard : Claim7 := { stood := { row := topoGroupsRow, standIns := [], harness := (true, "f457e32cac972ff46382ffe2e25f595fe8102b659c4a799d2921b902cb7ffaab"), looks := true }, kinds := [], alts := [], laidByText := true, laidKinds := [.sentinel, .sentinel, .sentinel, .sentinel, .sentinel, .sentinel, .sentinel], laidTests := true, laidLooks := .later }
def TopoGroupsCardSaid : Prop := Claim7.holds Tryz.pinned (.plain (OpenSpec.ofChange topoGroupsSpec)) topoGroupsCard

/-- THE TIED CARD OF 'rivuletlaw8.TopoSays'. -/
def topoSaysCard : Claim7 := { stood := { row := topoSaysRow, standIns := [], harness := (true, "f457e32cac972ff46382ffe2e25f595fe8102b659c4a799d2921b902cb7ffaab"), looks := true }, kinds := [], alts := [], laidByText := true, laidKinds := [.sentinel, .sentinel, .sentinel, .sentinel, .sentinel, .sentinel, .sentinel, .sentinel, .sentinel, .sentinel, .sentinel, .sentinel, .sentinel, .sentinel], laidTests := true, laidLooks := .later }
def TopoSaysCardSaid : Prop := Claim7.holds Tryz.pinned (.plain (OpenSpec.ofChange topoSaysSpec)) topoSaysCard

/-- THE TIED CARD OF 'rivuletlaw8.TopoLines'. -/
def topoLinesCard : Claim7 := { stood := { row := topoLinesRow, standIns := [], harness := (true, "f457e32cac972ff46382ffe2e25f595fe8102b659c4a799d2921b902cb7ffaab"), looks := true }, kinds := [], alts := [], laidByText := true, laidKinds := [.sentinel, .sentinel, .sentinel, .sentinel, .sentinel, .sentinel, .sentinel], laidTests := true, laidLooks := .later }
def TopoLinesCardSaid : Prop := Claim7.holds Tryz.pinned (.plain (OpenSpec.ofChange topoLinesSpec)) topoLinesCard

/-- THE TIED CARD OF 'rivuletlaw8.TopoOthers'. -/
def topoOthersCard : Claim7 := { stood := { row := topoOthersRow, standIns := [], harness := (true, "f457e32cac972ff46382ffe2e25f595fe8102b659c4a799d2921b902cb7ffaab"), looks := true }, kinds := [], alts := [], laidByText := true, laidKinds := [.sentinel, .sentinel, .sentinel, .sentinel, .sentinel, .sentinel, .sentinel], laidTests := true, laidLooks := .later }
def TopoOthersCardSaid : Prop := Claim7.holds Tryz.pinned (.plain (OpenSpec.ofChange topoOthersSpec)) topoOthersCard

/-- THE SECOND FORM's CARD OF 'rivuletlaw8.TopoGroups'. -/
def topoGroupsUptoCard : Claim7 := { stood := { row := topoGroupsUptoRow, standIns := [], harness := (true, "f457e32cac972ff46382ffe2e25f595fe8102b659c4a799d2921b902cb7ffaab"), looks := true }, kinds := [], alts := [], laidByText := true, laidKinds := [.sentinel, .sentinel, .sentinel, .sentinel, .sentinel, .sentinel, .sentinel], laidTests := true, laidLooks := .later }
def TopoGroupsUptoCardSaid : Prop := Claim7.holds Tryz.pinned (.plain (OpenSpec.upto topoGroupsSpec)) topoGroupsUptoCard

/-- THE SECOND FORM's CARD OF 'rivuletlaw8.TopoSays'. -/
def topoSaysUptoCard : Claim7 := { stood := { row := topoSaysUptoRow, standIns := [], harness := (true, "f457e32cac972ff46382ffe2e25f595fe8102b659c4a799d2921b902cb7ffaab"), looks := true }, kinds := [], alts := [], laidByText := true, laidKinds := [.sentinel, .sentinel, .sentinel, .sentinel, .sentinel, .sentinel, .sentinel, .sentinel, .sentinel, .sentinel, .sentinel, .sentinel, .sentinel, .sentinel], laidTests := true, laidLooks := .later }
def TopoSaysUptoCardSaid : Prop := Claim7.holds Tryz.pinned (.plain (OpenSpec.upto topoSaysSpec)) topoSaysUptoCard

/-- THE SECOND FORM's CARD OF 'rivuletlaw8.TopoLines'. -/
def topoLinesUptoCard : Claim7 := { stood := { row := topoLinesUptoRow, standIns := [], harness := (true, "f457e32cac972ff46382ffe2e25f595fe8102b659c4a799d2921b902cb7ffaab"), looks := true }, kinds := [], alts := [], laidByText := true, laidKinds := [.sentinel, .sentinel, .sentinel, .sentinel, .sentinel, .sentinel, .sentinel], laidTests := true, laidLooks := .later }
def TopoLinesUptoCardSaid : Prop := Claim7.holds Tryz.pinned (.plain (OpenSpec.upto topoLinesSpec)) topoLinesUptoCard

/-- THE SECOND FORM's CARD OF 'rivuletlaw8.TopoOthers'. -/
def topoOthersUptoCard : Claim7 := { stood := { row := topoOthersUptoRow, standIns := [], harness := (true, "f457e32cac972ff46382ffe2e25f595fe8102b659c4a799d2921b902cb7ffaab"), looks := true }, kinds := [], alts := [], laidByText := true, laidKinds := [.sentinel, .sentinel, .sentinel, .sentinel, .sentinel, .sentinel, .sentinel], laidTests := true, laidLooks := .later }
def TopoOthersUptoCardSaid : Prop := Claim7.holds Tryz.pinned (.plain (OpenSpec.upto topoOthersSpec)) topoOthersUptoCard
end Rows
end Go.Proofs.YtkghcahghmpeiaaGreatDoor
