/-
  DERIVED. GIVEN WITH THE SEED: THE CARDS: each row of YtjbinmjjnneilaaGreatDoorRows.lean that lists a variable, with what it lists TIED to the program's text (the seventh form; the later family's looks); each row that meets fmt, with fmt's text TOLD by the authors' own Lean function (tested against real Go, not proved from fmt's source: count such statements apart). THE CARD IS WHAT COUNTS. Prove the row's statement (the work); the ties are given (YtjbinmjjnneilaaGreatDoorTie.lean); close each card by the builder's one call (the guide's Derived/Test/ToyasCard.lean, 'card_holds'). Laid BY PROGRAM, IN A SANDBOX (cutbox-door.mjs). By AI agents, Wed Nov 11 2026. No macro, syntax, notation, axiom, sorry.
-/
import Derived.Test.YtjbinmjjnneilaaGreatDoorRows
import GoSem.ClaimSeven
namespace Go.Proofs.YtjbinmjjnneilaaGreatDoor
namespace Rows

/-- THE TIED CARD OF 'rivuletlaw11.RpfLines'. -/
def rpfLinesCard : Claim7 := { stood := { row := rpfLinesRow, standIns := [], harness := (true, "1f7255dd5ab6e58c90cc8fb175f813bac7bc786531448cf904867af6129607fa"), looks := false }, kinds := [], alts := [], laidByText := true, laidKinds := [.sentinel, .sentinel, .sentinel, .sentinel, .sentinel, .sentinel, .sentinel], laidTests := true, laidLooks := .later }
def RpfLinesCardSaid : Prop := Claim7.holds Tryz.pinned (.plain (OpenSpec.ofChange rpfLinesSpec)) rpfLinesCard

/-- THE TIED CARD OF 'rivuletlaw11.RpfRings'. -/
def rpfRingsCard : Claim7 := { stood := { row := rpfRingsRow, standIns := [], harness := (true, "1f7255dd5ab6e58c90cc8fb175f813bac7bc786531448cf904867af6129607fa"), looks := false }, kinds := [], alts := [], laidByText := true, laidKinds := [.data, .data, .data, .sentinel, .sentinel, .sentinel, .sentinel, .sentinel, .sentinel, .sentinel], laidTests := true, laidLooks := .later }
def RpfRingsCardSaid : Prop := Claim7.holds Tryz.pinned (.plain (OpenSpec.ofChange rpfRingsSpec)) rpfRingsCard

/-- THE SECOND FORM's CARD OF 'rivuletlaw11.RpfLines'. -/
def rpfLinesUptoCard : Claim7 := { stood := { row := rpfLinesUptoRow, standIns := [], harness := (true, "1f7255dd5ab6e58c90cc8fb175f813bac7bc786531448cf904867af6129607fa"), looks := false }, kinds := [], alts := [], laidByText := true, laidKinds := [.sentinel, .sentinel, .sentinel, .sentinel, .sentinel, .sentinel, .sentinel], laidTests := true, laidLooks := .later }
def RpfLinesUptoCardSaid : Prop := Claim7.holds Tryz.pinned (.plain (OpenSpec.upto rpfLinesSpec)) rpfLinesUptoCard

/-- THE SECOND FORM's CARD OF 'rivuletlaw11.RpfRings'. -/
def rpfRingsUptoCard : Claim7 := { stood := { row := rpfRingsUptoRow, standIns := [], harness := (true, "1f7255dd5ab6e58c90cc8fb175f813bac7bc786531448cf904867af6129607fa"), looks := false }, kinds := [], alts := [], laidByText := true, laidKinds := [.data, .data, .data, .sentinel, .sentinel, .sentinel, .sentinel, .sentinel, .sentinel, .sentinel], laidTests := true, laidLooks := .later }
def RpfRingsUptoCardSaid : Prop := Claim7.holds Tryz.pinned (.plain (OpenSpec.upto rpfRingsSpec)) rpfRingsUptoCard
end Rows
end Go.Proofs.YtjbinmjjnneilaaGreatDoor
