/-
  DERIVED. GIVEN WITH THE SEED: THE CARDS: each row of YtgicmgljllaliaaGreatDoorRows.lean that lists a variable, with what it lists TIED to the program's text (the seventh form; the later family's looks); each row that meets fmt, with fmt's text TOLD by the authors' own Lean function (tested against real Go, not proved from fmt's source: count such statements apart). THE CARD IS WHAT COUNTS. Prove the row's statement (the work); the ties are given (YtgicmgljllaliaaGreatDoorTie.lean); close each card by the builder's one call (the guide's Derived/Test/ToyasCard.lean, 'card_holds'). Laid BY PROGRAM, IN A SANDBOX (cutbox-door.mjs). By AI agents, Wed Nov 11 2026. No macro, syntax, notation, axiom, sorry.
-/
import Derived.Test.YtgicmgljllaliaaGreatDoorRows
import GoSem.ClaimSeven
namespace Go.Proofs.YtgicmgljllaliaaGreatDoor
namespace Rows

/-- THE TIED CARD OF 'rivuletlaw16.KeysSent'. -/
def keysSentCard : Claim7 := { stood := { row := keysSentRow, standIns := [], harness := (true, "142f38203bf6fba037d5fe1c9e9691dad72c5fff065bc69ab75c7c5a93444ca9"), looks := false }, kinds := [], alts := [], laidByText := true, laidKinds := [.sentinel, .sentinel, .sentinel, .sentinel, .sentinel, .sentinel, .sentinel], laidTests := true, laidLooks := .later }
def KeysSentCardSaid : Prop := Claim7.holds Tryz.pinned (.plain (OpenSpec.ofChange keysSentSpec)) keysSentCard

/-- THE TIED CARD OF 'rivuletlaw16.KeysSay'. -/
def keysSayCard : Claim7 := { stood := { row := keysSayRow, standIns := [], harness := (true, "142f38203bf6fba037d5fe1c9e9691dad72c5fff065bc69ab75c7c5a93444ca9"), looks := false }, kinds := [], alts := [], laidByText := true, laidKinds := [.sentinel, .sentinel, .sentinel, .sentinel, .sentinel, .sentinel, .sentinel], laidTests := true, laidLooks := .later }
def KeysSayCardSaid : Prop := Claim7.holds Tryz.pinned (.plain (OpenSpec.ofChange keysSaySpec)) keysSayCard

/-- THE TIED CARD OF 'rivuletlaw16.KeysOrder'. -/
def keysOrderCard : Claim7 := { stood := { row := keysOrderRow, standIns := [], harness := (true, "142f38203bf6fba037d5fe1c9e9691dad72c5fff065bc69ab75c7c5a93444ca9"), looks := false }, kinds := [], alts := [], laidByText := true, laidKinds := [.sentinel, .sentinel, .sentinel, .sentinel, .sentinel, .sentinel, .sentinel], laidTests := true, laidLooks := .later }
def KeysOrderCardSaid : Prop := Claim7.holds Tryz.pinned (.plain (OpenSpec.ofChange keysOrderSpec)) keysOrderCard

/-- THE TIED CARD OF 'rivuletlaw16.KeysAll'. -/
def keysAllCard : Claim7 := { stood := { row := keysAllRow, standIns := [], harness := (true, "142f38203bf6fba037d5fe1c9e9691dad72c5fff065bc69ab75c7c5a93444ca9"), looks := false }, kinds := [], alts := [], laidByText := true, laidKinds := [.sentinel, .sentinel, .sentinel, .sentinel, .sentinel, .sentinel, .sentinel], laidTests := true, laidLooks := .later }
def KeysAllCardSaid : Prop := Claim7.holds Tryz.pinned (.plain (OpenSpec.ofChange keysAllSpec)) keysAllCard

/-- THE SECOND FORM's CARD OF 'rivuletlaw16.KeysSent'. -/
def keysSentUptoCard : Claim7 := { stood := { row := keysSentUptoRow, standIns := [], harness := (true, "142f38203bf6fba037d5fe1c9e9691dad72c5fff065bc69ab75c7c5a93444ca9"), looks := false }, kinds := [], alts := [], laidByText := true, laidKinds := [.sentinel, .sentinel, .sentinel, .sentinel, .sentinel, .sentinel, .sentinel], laidTests := true, laidLooks := .later }
def KeysSentUptoCardSaid : Prop := Claim7.holds Tryz.pinned (.plain (OpenSpec.upto keysSentSpec)) keysSentUptoCard

/-- THE SECOND FORM's CARD OF 'rivuletlaw16.KeysSay'. -/
def keysSayUptoCard : Claim7 := { stood := { row := keysSayUptoRow, standIns := [], harness := (true, "142f38203bf6fba037d5fe1c9e9691dad72c5fff065bc69ab75c7c5a93444ca9"), looks := false }, kinds := [], alts := [], laidByText := true, laidKinds := [.sentinel, .sentinel, .sentinel, .sentinel, .sentinel, .sentinel, .sentinel], laidTests := true, laidLooks := .later }
def KeysSayUptoCardSaid : Prop := Claim7.holds Tryz.pinned (.plain (OpenSpec.upto keysSaySpec)) keysSayUptoCard

/-- THE SECOND FORM's CARD OF 'rivuletlaw16.KeysOrder'. -/
def keysOrderUptoCard : Claim7 := { stood := { row := keysOrderUptoRow, standIns := [], harness := (true, "142f38203bf6fba037d5fe1c9e9691dad72c5fff065bc69ab75c7c5a93444ca9"), looks := false }, kinds := [], alts := [], laidByText := true, laidKinds := [.sentinel, .sentinel, .sentinel, .sentinel, .sentinel, .sentinel, .sentinel], laidTests := true, laidLooks := .later }
def KeysOrderUptoCardSaid : Prop := Claim7.holds Tryz.pinned (.plain (OpenSpec.upto keysOrderSpec)) keysOrderUptoCard

/-- THE SECOND FORM's CARD OF 'rivuletlaw16.KeysAll'. -/
def keysAllUptoCard : Claim7 := { stood := { row := keysAllUptoRow, standIns := [], harness := (true, "142f38203bf6fba037d5fe1c9e9691dad72c5fff065bc69ab75c7c5a93444ca9"), looks := false }, kinds := [], alts := [], laidByText := true, laidKinds := [.sentinel, .sentinel, .sentinel, .sentinel, .sentinel, .sentinel, .sentinel], laidTests := true, laidLooks := .later }
def KeysAllUptoCardSaid : Prop := Claim7.holds Tryz.pinned (.plain (OpenSpec.upto keysAllSpec)) keysAllUptoCard
end Rows
end Go.Proofs.YtgicmgljllaliaaGreatDoor
