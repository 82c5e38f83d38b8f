/-
  DERIVED. GIVEN WITH THE SEED: THE CARDS: each row of YtgjpclmkjoghiaaDoorRows.lean that lists a variable, with what it lists TIED to the program's text (the seventh form; the later family's looks); each row that meets fmt, with fmt's text TOLD by the authors' own Lean function (tested against real Go, not proved from fmt's source: count such statements apart). THE CARD IS WHAT COUNTS. Prove the row's statement (the work); the ties are given (YtgjpclmkjoghiaaDoorTie.lean); close each card by the builder's one call (the guide's Derived/Test/ToyasCard.lean, 'card_holds'). Laid BY PROGRAM, IN A SANDBOX (cutbox-door.mjs). By AI agents, Wed Nov 11 2026. No macro, syntax, notation, axiom, sorry.
-/
import Derived.Test.YtgjpclmkjoghiaaDoorRows
import GoSem.ClaimSeven
namespace Go.Proofs.YtgjpclmkjoghiaaDoor
namespace Rows

/-- THE TIED CARD OF 'rivuletlaw3.IpSays'. -/
def ipSaysCard : Claim7 := { stood := { row := ipSaysRow, standIns := [], harness := (true, "a17098532c13233fa6db77859a071aac821c47b3780b08e0ae80e7471a759912"), looks := true }, kinds := [], alts := [], laidByText := true, laidKinds := [.sentinel, .sentinel, .sentinel, .sentinel, .sentinel, .sentinel, .sentinel, .sentinel, .sentinel, .sentinel, .sentinel, .sentinel, .sentinel, .sentinel], laidTests := true, laidLooks := .later }
def IpSaysCardSaid : Prop := Claim7.holds Tryd.pinned (.plain (OpenSpec.ofChange ipSaysSpec)) ipSaysCard

/-- THE TIED CARD OF 'rivuletlaw3.IpBack'. -/
def ipBackCard : Claim7 := { stood := { row := ipBackRow, standIns := [], harness := (true, "a17098532c13233fa6db77859a071aac821c47b3780b08e0ae80e7471a759912"), looks := true }, kinds := [], alts := [], laidByText := true, laidKinds := [.sentinel, .sentinel, .sentinel, .sentinel, .sentinel, .sentinel, .sentinel, .sentinel, .sentinel, .sentinel, .sentinel, .sentinel, .sentinel, .sentinel], laidTests := true, laidLooks := .later }
def IpBackCardSaid : Prop := Claim7.holds Tryd.pinned (.plain (OpenSpec.ofChange ipBackSpec)) ipBackCard

/-- THE TIED CARD OF 'rivuletlaw3.IpFields'. -/
def ipFieldsCard : Claim7 := { stood := { row := ipFieldsRow, standIns := [], harness := (true, "a17098532c13233fa6db77859a071aac821c47b3780b08e0ae80e7471a759912"), looks := true }, kinds := [], alts := [], laidByText := true, laidKinds := [.sentinel, .sentinel, .sentinel, .sentinel], laidTests := true, laidLooks := .later }
def IpFieldsCardSaid : Prop := Claim7.holds Tryd.pinned (.plain (OpenSpec.ofChange ipFieldsSpec)) ipFieldsCard

/-- THE TIED CARD OF 'rivuletlaw3.IpCut'. -/
def ipCutCard : Claim7 := { stood := { row := ipCutRow, standIns := [], harness := (true, "a17098532c13233fa6db77859a071aac821c47b3780b08e0ae80e7471a759912"), looks := true }, kinds := [], alts := [], laidByText := true, laidKinds := [.sentinel, .sentinel, .sentinel, .sentinel], laidTests := true, laidLooks := .later }
def IpCutCardSaid : Prop := Claim7.holds Tryd.pinned (.plain (OpenSpec.ofChange ipCutSpec)) ipCutCard

/-- THE SECOND FORM's CARD OF 'rivuletlaw3.IpSays'. -/
def ipSaysUptoCard : Claim7 := { stood := { row := ipSaysUptoRow, standIns := [], harness := (true, "a17098532c13233fa6db77859a071aac821c47b3780b08e0ae80e7471a759912"), looks := true }, kinds := [], alts := [], laidByText := true, laidKinds := [.sentinel, .sentinel, .sentinel, .sentinel, .sentinel, .sentinel, .sentinel, .sentinel, .sentinel, .sentinel, .sentinel, .sentinel, .sentinel, .sentinel], laidTests := true, laidLooks := .later }
def IpSaysUptoCardSaid : Prop := Claim7.holds Tryd.pinned (.plain (OpenSpec.upto ipSaysSpec)) ipSaysUptoCard

/-- THE SECOND FORM's CARD OF 'rivuletlaw3.IpBack'. -/
def ipBackUptoCard : Claim7 := { stood := { row := ipBackUptoRow, standIns := [], harness := (true, "a17098532c13233fa6db77859a071aac821c47b3780b08e0ae80e7471a759912"), looks := true }, kinds := [], alts := [], laidByText := true, laidKinds := [.sentinel, .sentinel, .sentinel, .sentinel, .sentinel, .sentinel, .sentinel, .sentinel, .sentinel, .sentinel, .sentinel, .sentinel, .sentinel, .sentinel], laidTests := true, laidLooks := .later }
def IpBackUptoCardSaid : Prop := Claim7.holds Tryd.pinned (.plain (OpenSpec.upto ipBackSpec)) ipBackUptoCard

/-- THE SECOND FORM's CARD OF 'rivuletlaw3.IpFields'. -/
def ipFieldsUptoCard : Claim7 := { stood := { row := ipFieldsUptoRow, standIns := [], harness := (true, "a17098532c13233fa6db77859a071aac821c47b3780b08e0ae80e7471a759912"), looks := true }, kinds := [], alts := [], laidByText := true, laidKinds := [.sentinel, .sentinel, .sentinel, .sentinel], laidTests := true, laidLooks := .later }
def IpFieldsUptoCardSaid : Prop := Claim7.holds Tryd.pinned (.plain (OpenSpec.upto ipFieldsSpec)) ipFieldsUptoCard

/-- THE SECOND FORM's CARD OF 'rivuletlaw3.IpCut'. -/
def ipCutUptoCard : Claim7 := { stood := { row := ipCutUptoRow, standIns := [], harness := (true, "a17098532c13233fa6db77859a071aac821c47b3780b08e0ae80e7471a759912"), looks := true }, kinds := [], alts := [], laidByText := true, laidKinds := [.sentinel, .sentinel, .sentinel, .sentinel], laidTests := true, laidLooks := .later }
def IpCutUptoCardSaid : Prop := Claim7.holds Tryd.pinned (.plain (OpenSpec.upto ipCutSpec)) ipCutUptoCard
end Rows
end Go.Proofs.YtgjpclmkjoghiaaDoor
