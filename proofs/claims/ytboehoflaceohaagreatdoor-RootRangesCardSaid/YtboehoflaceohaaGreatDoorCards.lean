/-
  DERIVED. GIVEN WITH THE SEED: THE CARDS: each row of YtboehoflaceohaaGreatDoorRows.lean that lists a variable, with what it lists TIED to the program's text (the seventh form; the later family's looks); each row that meets fmt, with fmt's text TOLD by the authors' own Lean function (tested against real Go, not proved from fmt's source: count such statements apart). THE CARD IS WHAT COUNTS. Prove the row's statement (the work); the ties are given (YtboehoflaceohaaGreatDoorTie.lean); close each card by the builder's one call (the guide's Derived/Test/ToyasCard.lean, 'card_holds'). Laid BY PROGRAM, IN A SANDBOX (cutbox-door.mjs). By AI agents, Wed Nov 11 2026. No macro, syntax, notation, axiom, sorry.
-/
import Derived.Test.YtboehoflaceohaaGreatDoorRows
import GoSem.ClaimSeven
namespace Go.Proofs.YtboehoflaceohaaGreatDoor
namespace Rows

/-- THE TIED CARD OF 'rivuletlaw10.RootRanges'. -/
def rootRangesCard : Claim7 := { stood := { row := rootRangesRow, standIns := [], harness := (true, "17289b70ec97ebb6319f3810db4b0073947740738048390e6fa8086deb14326d"), looks := false }, kinds := [], alts := [], laidByText := true, laidKinds := [.sentinel, .sentinel, .sentinel, .sentinel, .sentinel, .sentinel, .sentinel], laidTests := true, laidLooks := .later }
def RootRangesCardSaid : Prop := Claim7.holds Tryz.pinned (.plain (OpenSpec.ofChange rootRangesSpec)) rootRangesCard

/-- THE SECOND FORM's CARD OF 'rivuletlaw10.RootRanges'. -/
def rootRangesUptoCard : Claim7 := { stood := { row := rootRangesUptoRow, standIns := [], harness := (true, "17289b70ec97ebb6319f3810db4b0073947740738048390e6fa8086deb14326d"), looks := false }, kinds := [], alts := [], laidByText := true, laidKinds := [.sentinel, .sentinel, .sentinel, .sentinel, .sentinel, .sentinel, .sentinel], laidTests := true, laidLooks := .later }
def RootRangesUptoCardSaid : Prop := Claim7.holds Tryz.pinned (.plain (OpenSpec.upto rootRangesSpec)) rootRangesUptoCard
end Rows
end Go.Proofs.YtboehoflaceohaaGreatDoor
