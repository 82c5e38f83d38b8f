/-
  DERIVED. GIVEN WITH THE SEED: THE CARDS: each row of YtahnnaagpeinkaaGreatDoorRows.lean that lists a variable, with what it lists TIED to the program's text (the seventh form; the later family's looks); each row that meets fmt, with fmt's text TOLD by the authors' own Lean function (tested against real Go, not proved from fmt's source: count such statements apart). THE CARD IS WHAT COUNTS. Prove the row's statement (the work); the ties are given (YtahnnaagpeinkaaGreatDoorTie.lean); close each card by the builder's one call (the guide's Derived/Test/ToyasCard.lean, 'card_holds'). Laid BY PROGRAM, IN A SANDBOX (cutbox-door.mjs). By AI agents, Wed Nov 11 2026. No macro, syntax, notation, axiom, sorry.
-/
import Derived.Test.YtahnnaagpeinkaaGreatDoorRows
import GoSem.ClaimSeven
namespace Go.Proofs.YtahnnaagpeinkaaGreatDoor
namespace Rows

/-- THE TIED CARD OF 'rivuletlaw9.RibSays'. -/
def ribSaysCard : Claim7 := { stood := { row := ribSaysRow, standIns := [], harness := (true, "6770eefadec0e415ad82bf10f42643312a263e10acde73cff3e285e2d60a6444"), looks := false }, kinds := [], alts := [], laidByText := true, laidKinds := [.sentinel, .sentinel, .sentinel, .sentinel, .sentinel, .sentinel, .sentinel], laidTests := true, laidLooks := .later }
def RibSaysCardSaid : Prop := Claim7.holds Tryz.pinned (.plain (OpenSpec.ofChange ribSaysSpec)) ribSaysCard

/-- THE TIED CARD OF 'rivuletlaw9.RibLines'. -/
def ribLinesCard : Claim7 := { stood := { row := ribLinesRow, standIns := [], harness := (true, "6770eefadec0e415ad82bf10f42643312a263e10acde73cff3e285e2d60a6444"), looks := false }, kinds := [], alts := [], laidByText := true, laidKinds := [.sentinel, .sentinel, .sentinel, .sentinel, .sentinel, .sentinel, .sentinel], laidTests := true, laidLooks := .later }
def RibLinesCardSaid : Prop := Claim7.holds Tryz.pinned (.plain (OpenSpec.ofChange ribLinesSpec)) ribLinesCard

/-- THE TIED CARD OF 'rivuletlaw9.RibDeep'. -/
def ribDeepCard : Claim7 := { stood := { row := ribDeepRow, standIns := [], harness := (true, "6770eefadec0e415ad82bf10f42643312a263e10acde73cff3e285e2d60a6444"), looks := false }, kinds := [], alts := [], laidByText := true, laidKinds := [.sentinel, .sentinel, .sentinel, .sentinel, .sentinel, .sentinel, .sentinel], laidTests := true, laidLooks := .later }
def RibDeepCardSaid : Prop := Claim7.holds Tryz.pinned (.plain (OpenSpec.ofChange ribDeepSpec)) ribDeepCard

/-- THE TIED CARD OF 'rivuletlaw9.RibLeast'. -/
def ribLeastCard : Claim7 := { stood := { row := ribLeastRow, standIns := [], harness := (true, "6770eefadec0e415ad82bf10f42643312a263e10acde73cff3e285e2d60a6444"), looks := false }, kinds := [], alts := [], laidByText := true, laidKinds := [.sentinel, .sentinel, .sentinel, .sentinel, .sentinel, .sentinel, .sentinel], laidTests := true, laidLooks := .later }
def RibLeastCardSaid : Prop := Claim7.holds Tryz.pinned (.plain (OpenSpec.ofChange ribLeastSpec)) ribLeastCard

/-- THE TIED CARD OF 'rivuletlaw9.RibRings'. -/
def ribRingsCard : Claim7 := { stood := { row := ribRingsRow, standIns := [], harness := (true, "6770eefadec0e415ad82bf10f42643312a263e10acde73cff3e285e2d60a6444"), looks := false }, kinds := [], alts := [], laidByText := true, laidKinds := [.sentinel, .sentinel, .sentinel, .sentinel, .sentinel, .sentinel, .sentinel], laidTests := true, laidLooks := .later }
def RibRingsCardSaid : Prop := Claim7.holds Tryz.pinned (.plain (OpenSpec.ofChange ribRingsSpec)) ribRingsCard

/-- THE TIED CARD OF 'rivuletlaw9.RibConnected'. -/
def ribConnectedCard : Claim7 := { stood := { row := ribConnectedRow, standIns := [], harness := (true, "6770eefadec0e415ad82bf10f42643312a263e10acde73cff3e285e2d60a6444"), looks := false }, kinds := [], alts := [], laidByText := true, laidKinds := [.data, .data, .data, .sentinel, .sentinel, .sentinel, .sentinel, .sentinel, .sentinel, .sentinel], laidTests := true, laidLooks := .later }
def RibConnectedCardSaid : Prop := Claim7.holds Tryz.pinned (.plain (OpenSpec.ofChange ribConnectedSpec)) ribConnectedCard

/-- THE SECOND FORM's CARD OF 'rivuletlaw9.RibSays'. -/
def ribSaysUptoCard : Claim7 := { stood := { row := ribSaysUptoRow, standIns := [], harness := (true, "6770eefadec0e415ad82bf10f42643312a263e10acde73cff3e285e2d60a6444"), looks := false }, kinds := [], alts := [], laidByText := true, laidKinds := [.sentinel, .sentinel, .sentinel, .sentinel, .sentinel, .sentinel, .sentinel], laidTests := true, laidLooks := .later }
def RibSaysUptoCardSaid : Prop := Claim7.holds Tryz.pinned (.plain (OpenSpec.upto ribSaysSpec)) ribSaysUptoCard

/-- THE SECOND FORM's CARD OF 'rivuletlaw9.RibLines'. -/
def ribLinesUptoCard : Claim7 := { stood := { row := ribLinesUptoRow, standIns := [], harness := (true, "6770eefadec0e415ad82bf10f42643312a263e10acde73cff3e285e2d60a6444"), looks := false }, kinds := [], alts := [], laidByText := true, laidKinds := [.sentinel, .sentinel, .sentinel, .sentinel, .sentinel, .sentinel, .sentinel], laidTests := true, laidLooks := .later }
def RibLinesUptoCardSaid : Prop := Claim7.holds Tryz.pinned (.plain (OpenSpec.upto ribLinesSpec)) ribLinesUptoCard

/-- THE SECOND FORM's CARD OF 'rivuletlaw9.RibDeep'. -/
def ribDeepUptoCard : Claim7 := { stood := { row := ribDeepUptoRow, standIns := [], harness := (true, "6770eefadec0e415ad82bf10f42643312a263e10acde73cff3e285e2d60a6444"), looks := false }, kinds := [], alts := [], laidByText := true, laidKinds := [.sentinel, .sentinel, .sentinel, .sentinel, .sentinel, .sentinel, .sentinel], laidTests := true, laidLooks := .later }
def RibDeepUptoCardSaid : Prop := Claim7.holds Tryz.pinned (.plain (OpenSpec.upto ribDeepSpec)) ribDeepUptoCard

/-- THE SECOND FORM's CARD OF 'rivuletlaw9.RibLeast'. -/
def ribLeastUptoCard : Claim7 := { stood := { row := ribLeastUptoRow, standIns := [], harness := (true, "6770eefadec0e415ad82bf10f42643312a263e10acde73cff3e285e2d60a6444"), looks := false }, kinds := [], alts := [], laidByText := true, laidKinds := [.sentinel, .sentinel, .sentinel, .sentinel, .sentinel, .sentinel, .sentinel], laidTests := true, laidLooks := .later }
def RibLeastUptoCardSaid : Prop := Claim7.holds Tryz.pinned (.plain (OpenSpec.upto ribLeastSpec)) ribLeastUptoCard

/-- THE SECOND FORM's CARD OF 'rivuletlaw9.RibRings'. -/
def ribRingsUptoCard : Claim7 := { stood := { row := ribRingsUptoRow, standIns := [], harness := (true, "6770eefadec0e415ad82bf10f42643312a263e10acde73cff3e285e2d60a6444"), looks := false }, kinds := [], alts := [], laidByText := true, laidKinds := [.sentinel, .sentinel, .sentinel, .sentinel, .sentinel, .sentinel, .sentinel], laidTests := true, laidLooks := .later }
def RibRingsUptoCardSaid : Prop := Claim7.holds Tryz.pinned (.plain (OpenSpec.upto ribRingsSpec)) ribRingsUptoCard

/-- THE SECOND FORM's CARD OF 'rivuletlaw9.RibConnected'. -/
def ribConnectedUptoCard : Claim7 := { stood := { row := ribConnectedUptoRow, standIns := [], harness := (true, "6770eefadec0e415ad82bf10f42643312a263e10acde73cff3e285e2d60a6444"), looks := false }, kinds := [], alts := [], laidByText := true, laidKinds := [.data, .data, .data, .sentinel, .sentinel, .sentinel, .sentinel, .sentinel, .sentinel, .sentinel], laidTests := true, laidLooks := .later }
def RibConnectedUptoCardSaid : Prop := Claim7.holds Tryz.pinned (.plain (OpenSpec.upto ribConnectedSpec)) ribConnectedUptoCard
end Rows
end Go.Proofs.YtahnnaagpeinkaaGreatDoor
