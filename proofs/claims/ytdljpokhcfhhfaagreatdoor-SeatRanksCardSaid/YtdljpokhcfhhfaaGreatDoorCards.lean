/-
  DERIVED. GIVEN WITH THE SEED: THE CARDS: each row of YtdljpokhcfhhfaaGreatDoorRows.lean that lists a variable, with what it lists TIED to the program's text (the seventh form; the later family's looks); each row that meets fmt, with fmt's text TOLD by the authors' own Lean function (tested against real Go, not proved from fmt's source: count such statements apart). THE CARD IS WHAT COUNTS. Prove the row's statement (the work); the ties are given (YtdljpokhcfhhfaaGreatDoorTie.lean); close each card by the builder's one call (the guide's Derived/Test/ToyasCard.lean, 'card_holds'). Laid BY PROGRAM, IN A SANDBOX (cutbox-door.mjs). By AI agents, Wed Nov 11 2026. No macro, syntax, notation, axiom, sorry.
-/
import Derived.Test.YtdljpokhcfhhfaaGreatDoorRows
import GoSem.ClaimSeven
namespace Go.Proofs.YtdljpokhcfhhfaaGreatDoor
namespace Rows

/-- THE TIED CARD OF 'rivuletlaw9.RibSays'. -/
def ribSaysCard : Claim7 := { stood := { row := ribSaysRow, standIns := [], harness := (true, "47472964d4c54d54eaccb8121ab3618f2862c817bb4f0d918f03448ca7c250ad"), looks := false }, kinds := [], alts := [], laidByText := true, laidKinds := [.sentinel, .sentinel, .sentinel, .sentinel, .sentinel, .sentinel, .sentinel], laidTests := true, laidLooks := .later }
def RibSaysCardSaid : Prop := Claim7.holds Tryz.pinned (.plain (OpenSpec.ofChange ribSaysSpec)) ribSaysCard

/-- THE TIED CARD OF 'rivuletlaw11.RpfSays'. -/
def rpfSaysCard : Claim7 := { stood := { row := rpfSaysRow, standIns := [], harness := (true, "47472964d4c54d54eaccb8121ab3618f2862c817bb4f0d918f03448ca7c250ad"), looks := false }, kinds := [], alts := [], laidByText := true, laidKinds := [.sentinel, .sentinel, .sentinel, .sentinel, .sentinel, .sentinel, .sentinel], laidTests := true, laidLooks := .later }
def RpfSaysCardSaid : Prop := Claim7.holds Tryz.pinned (.plain (OpenSpec.ofChange rpfSaysSpec)) rpfSaysCard

/-- THE TIED CARD OF 'rivuletlaw12.SeatRanks'. -/
def seatRanksCard : Claim7 := { stood := { row := seatRanksRow, standIns := [], harness := (true, "47472964d4c54d54eaccb8121ab3618f2862c817bb4f0d918f03448ca7c250ad"), looks := false }, kinds := [], alts := [], laidByText := true, laidKinds := [.sentinel, .sentinel, .sentinel, .sentinel, .sentinel, .sentinel, .sentinel], laidTests := true, laidLooks := .later }
def SeatRanksCardSaid : Prop := Claim7.holds Tryz.pinned (.plain (OpenSpec.ofChange seatRanksSpec)) seatRanksCard

/-- THE TIED CARD OF 'rivuletlaw17.WantSays'. -/
def wantSaysCard : Claim7 := { stood := { row := wantSaysRow, standIns := [], harness := (true, "47472964d4c54d54eaccb8121ab3618f2862c817bb4f0d918f03448ca7c250ad"), looks := false }, kinds := [], alts := [], laidByText := true, laidKinds := [.sentinel, .sentinel, .sentinel, .sentinel, .sentinel, .sentinel, .sentinel], laidTests := true, laidLooks := .later }
def WantSaysCardSaid : Prop := Claim7.holds Tryz.pinned (.plain (OpenSpec.ofChange wantSaysSpec)) wantSaysCard

/-- THE SECOND FORM's CARD OF 'rivuletlaw9.RibSays'. -/
def ribSaysUptoCard : Claim7 := { stood := { row := ribSaysUptoRow, standIns := [], harness := (true, "47472964d4c54d54eaccb8121ab3618f2862c817bb4f0d918f03448ca7c250ad"), looks := false }, kinds := [], alts := [], laidByText := true, laidKinds := [.sentinel, .sentinel, .sentinel, .sentinel, .sentinel, .sentinel, .sentinel], laidTests := true, laidLooks := .later }
def RibSaysUptoCardSaid : Prop := Claim7.holds Tryz.pinned (.plain (OpenSpec.upto ribSaysSpec)) ribSaysUptoCard

/-- THE SECOND FORM's CARD OF 'rivuletlaw11.RpfSays'. -/
def rpfSaysUptoCard : Claim7 := { stood := { row := rpfSaysUptoRow, standIns := [], harness := (true, "47472964d4c54d54eaccb8121ab3618f2862c817bb4f0d918f03448ca7c250ad"), looks := false }, kinds := [], alts := [], laidByText := true, laidKinds := [.sentinel, .sentinel, .sentinel, .sentinel, .sentinel, .sentinel, .sentinel], laidTests := true, laidLooks := .later }
def RpfSaysUptoCardSaid : Prop := Claim7.holds Tryz.pinned (.plain (OpenSpec.upto rpfSaysSpec)) rpfSaysUptoCard

/-- THE SECOND FORM's CARD OF 'rivuletlaw12.SeatRanks'. -/
def seatRanksUptoCard : Claim7 := { stood := { row := seatRanksUptoRow, standIns := [], harness := (true, "47472964d4c54d54eaccb8121ab3618f2862c817bb4f0d918f03448ca7c250ad"), looks := false }, kinds := [], alts := [], laidByText := true, laidKinds := [.sentinel, .sentinel, .sentinel, .sentinel, .sentinel, .sentinel, .sentinel], laidTests := true, laidLooks := .later }
def SeatRanksUptoCardSaid : Prop := Claim7.holds Tryz.pinned (.plain (OpenSpec.upto seatRanksSpec)) seatRanksUptoCard

/-- THE SECOND FORM's CARD OF 'rivuletlaw17.WantSays'. -/
def wantSaysUptoCard : Claim7 := { stood := { row := wantSaysUptoRow, standIns := [], harness := (true, "47472964d4c54d54eaccb8121ab3618f2862c817bb4f0d918f03448ca7c250ad"), looks := false }, kinds := [], alts := [], laidByText := true, laidKinds := [.sentinel, .sentinel, .sentinel, .sentinel, .sentinel, .sentinel, .sentinel], laidTests := true, laidLooks := .later }
def WantSaysUptoCardSaid : Prop := Claim7.holds Tryz.pinned (.plain (OpenSpec.upto wantSaysSpec)) wantSaysUptoCard
end Rows
end Go.Proofs.YtdljpokhcfhhfaaGreatDoor
