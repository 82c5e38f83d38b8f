/-
  DERIVED. GIVEN WITH THE SEED: THE CARDS: each row of YtbeoalmcibnpaaaGreatDoorRows.lean that lists a variable, with what it lists TIED to the program's text (the seventh form; the later family's looks); each row that meets fmt, with fmt's text TOLD by the authors' own Lean function (tested against real Go, not proved from fmt's source: count such statements apart). THE CARD IS WHAT COUNTS. Prove the row's statement (the work); the ties are given (YtbeoalmcibnpaaaGreatDoorTie.lean); close each card by the builder's one call (the guide's Derived/Test/ToyasCard.lean, 'card_holds'). Laid BY PROGRAM, IN A SANDBOX (cutbox-door.mjs). By AI agents, Wed Nov 11 2026. No macro, syntax, notation, axiom, sorry.
-/
import Derived.Test.YtbeoalmcibnpaaaGreatDoorRows
import GoSem.ClaimSeven
namespace Go.Proofs.YtbeoalmcibnpaaaGreatDoor
namespace Rows

/-- THE TIED CARD OF 'rivuletlaw8.TopoGroups'. -/
def topoGroupsCard : Claim7 := { stood := { row := topoGroupsRow, standIns := [], harness := (true, "5580e560ea05df2c83c814e4928a3da7d503f7fc1ce5cdee0c55c4fee0400026"), looks := true }, kinds := [], alts := [], laidByText := true, laidKinds := [.sentinel, .sentinel, .sentinel, .sentinel, .sentinel, .sentinel, .sentinel], laidTests := true, laidLooks := .later }
def TopoGroupsCardSaid : Prop := Claim7.holds Tryz.pinned (.plain (OpenSpec.ofChange topoGroupsSpec)) topoGroupsCard

/-- THE TIED CARD OF 'rivuletlaw8.TopoSays'. -/
def topoSaysCard : Claim7 := { stood := { row := topoSaysRow, standIns := [], harness := (true, "5580e560ea05df2c83c814e4928a3da7d503f7fc1ce5cdee0c55c4fee0400026"), looks := true }, kinds := [], alts := [], laidByText := true, laidKinds := [.sentinel, .sentinel, .sentinel, .sentinel, .sentinel, .sentinel, .sentinel, .sentinel, .sentinel, .sentinel, .sentinel, .sentinel, .sentinel, .sentinel], laidTests := true, laidLooks := .later }
def TopoSaysCardSaid : Prop := Claim7.holds Tryz.pinned (.plain (OpenSpec.ofChange topoSaysSpec)) topoSaysCard

/-- THE TIED CARD OF 'rivuletlaw8.TopoOthers'. -/
def topoOthersCard : Claim7 := { stood := { row := topoOthersRow, standIns := [], harness := (true, "5580e560ea05df2c83c814e4928a3da7d503f7fc1ce5cdee0c55c4fee0400026"), looks := true }, kinds := [], alts := [], laidByText := true, laidKinds := [.sentinel, .sentinel, .sentinel, .sentinel, .sentinel, .sentinel, .sentinel], laidTests := true, laidLooks := .later }
def TopoOthersCardSaid : Prop := Claim7.holds Tryz.pinned (.plain (OpenSpec.ofChange topoOthersSpec)) topoOthersCard

/-- THE TIED CARD OF 'rivuletlaw10.RootOne'. -/
def rootOneCard : Claim7 := { stood := { row := rootOneRow, standIns := [], harness := (true, "5580e560ea05df2c83c814e4928a3da7d503f7fc1ce5cdee0c55c4fee0400026"), looks := true }, kinds := [], alts := [], laidByText := true, laidKinds := [.sentinel, .sentinel, .sentinel, .sentinel, .sentinel, .sentinel, .sentinel], laidTests := true, laidLooks := .later }
def RootOneCardSaid : Prop := Claim7.holds Tryz.pinned (.plain (OpenSpec.ofChange rootOneSpec)) rootOneCard

/-- THE TIED CARD OF 'rivuletlaw10.RootSays'. -/
def rootSaysCard : Claim7 := { stood := { row := rootSaysRow, standIns := [], harness := (true, "5580e560ea05df2c83c814e4928a3da7d503f7fc1ce5cdee0c55c4fee0400026"), looks := true }, kinds := [], alts := [], laidByText := true, laidKinds := [.sentinel, .sentinel, .sentinel, .sentinel, .sentinel, .sentinel, .sentinel], laidTests := true, laidLooks := .later }
def RootSaysCardSaid : Prop := Claim7.holds Tryz.pinned (.plain (OpenSpec.ofChange rootSaysSpec)) rootSaysCard

/-- THE TIED CARD OF 'rivuletlaw10.RootNone'. -/
def rootNoneCard : Claim7 := { stood := { row := rootNoneRow, standIns := [], harness := (true, "5580e560ea05df2c83c814e4928a3da7d503f7fc1ce5cdee0c55c4fee0400026"), looks := true }, kinds := [], alts := [], laidByText := true, laidKinds := [.sentinel, .sentinel, .sentinel, .sentinel, .sentinel, .sentinel, .sentinel], laidTests := true, laidLooks := .later }
def RootNoneCardSaid : Prop := Claim7.holds Tryz.pinned (.plain (OpenSpec.ofChange rootNoneSpec)) rootNoneCard

/-- THE TIED CARD OF 'rivuletlaw11.RpfSays'. -/
def rpfSaysCard : Claim7 := { stood := { row := rpfSaysRow, standIns := [], harness := (true, "5580e560ea05df2c83c814e4928a3da7d503f7fc1ce5cdee0c55c4fee0400026"), looks := true }, kinds := [], alts := [], laidByText := true, laidKinds := [.sentinel, .sentinel, .sentinel, .sentinel, .sentinel, .sentinel, .sentinel], laidTests := true, laidLooks := .later }
def RpfSaysCardSaid : Prop := Claim7.holds Tryz.pinned (.plain (OpenSpec.ofChange rpfSaysSpec)) rpfSaysCard

/-- THE TIED CARD OF 'rivuletlaw11.RpfUp'. -/
def rpfUpCard : Claim7 := { stood := { row := rpfUpRow, standIns := [], harness := (true, "5580e560ea05df2c83c814e4928a3da7d503f7fc1ce5cdee0c55c4fee0400026"), looks := true }, kinds := [], alts := [], laidByText := true, laidKinds := [.sentinel, .sentinel, .sentinel, .sentinel, .sentinel, .sentinel, .sentinel], laidTests := true, laidLooks := .later }
def RpfUpCardSaid : Prop := Claim7.holds Tryz.pinned (.plain (OpenSpec.ofChange rpfUpSpec)) rpfUpCard

/-- THE TIED CARD OF 'rivuletlaw11.RpfChains'. -/
def rpfChainsCard : Claim7 := { stood := { row := rpfChainsRow, standIns := [], harness := (true, "5580e560ea05df2c83c814e4928a3da7d503f7fc1ce5cdee0c55c4fee0400026"), looks := true }, kinds := [], alts := [], laidByText := true, laidKinds := [.sentinel, .sentinel, .sentinel, .sentinel, .sentinel, .sentinel, .sentinel], laidTests := true, laidLooks := .later }
def RpfChainsCardSaid : Prop := Claim7.holds Tryz.pinned (.plain (OpenSpec.ofChange rpfChainsSpec)) rpfChainsCard

/-- THE TIED CARD OF 'rivuletlaw12.SeatSays'. -/
def seatSaysCard : Claim7 := { stood := { row := seatSaysRow, standIns := [], harness := (true, "5580e560ea05df2c83c814e4928a3da7d503f7fc1ce5cdee0c55c4fee0400026"), looks := true }, kinds := [], alts := [], laidByText := true, laidKinds := [.sentinel, .sentinel, .sentinel, .sentinel, .sentinel, .sentinel, .sentinel], laidTests := true, laidLooks := .later }
def SeatSaysCardSaid : Prop := Claim7.holds Tryz.pinned (.plain (OpenSpec.ofChange seatSaysSpec)) seatSaysCard

/-- THE TIED CARD OF 'rivuletlaw12.SeatRanks'. -/
def seatRanksCard : Claim7 := { stood := { row := seatRanksRow, standIns := [], harness := (true, "5580e560ea05df2c83c814e4928a3da7d503f7fc1ce5cdee0c55c4fee0400026"), looks := true }, kinds := [], alts := [], laidByText := true, laidKinds := [.sentinel, .sentinel, .sentinel, .sentinel, .sentinel, .sentinel, .sentinel], laidTests := true, laidLooks := .later }
def SeatRanksCardSaid : Prop := Claim7.holds Tryz.pinned (.plain (OpenSpec.ofChange seatRanksSpec)) seatRanksCard

/-- THE TIED CARD OF 'rivuletlaw13.QuerSays'. -/
def querSaysCard : Claim7 := { stood := { row := querSaysRow, standIns := [], harness := (true, "5580e560ea05df2c83c814e4928a3da7d503f7fc1ce5cdee0c55c4fee0400026"), looks := true }, kinds := [], alts := [], laidByText := true, laidKinds := [.sentinel, .sentinel, .sentinel, .sentinel, .sentinel, .sentinel, .sentinel], laidTests := true, laidLooks := .later }
def QuerSaysCardSaid : Prop := Claim7.holds Tryz.pinned (.plain (OpenSpec.ofChange querSaysSpec)) querSaysCard

/-- THE SECOND FORM's CARD OF 'rivuletlaw8.TopoGroups'. -/
def topoGroupsUptoCard : Claim7 := { stood := { row := topoGroupsUptoRow, standIns := [], harness := (true, "5580e560ea05df2c83c814e4928a3da7d503f7fc1ce5cdee0c55c4fee0400026"), looks := true }, kinds := [], alts := [], laidByText := true, laidKinds := [.sentinel, .sentinel, .sentinel, .sentinel, .sentinel, .sentinel, .sentinel], laidTests := true, laidLooks := .later }
def TopoGroupsUptoCardSaid : Prop := Claim7.holds Tryz.pinned (.plain (OpenSpec.upto topoGroupsSpec)) topoGroupsUptoCard

/-- THE SECOND FORM's CARD OF 'rivuletlaw8.TopoSays'. -/
def topoSaysUptoCard : Claim7 := { stood := { row := topoSaysUptoRow, standIns := [], harness := (true, "5580e560ea05df2c83c814e4928a3da7d503f7fc1ce5cdee0c55c4fee0400026"), looks := true }, kinds := [], alts := [], laidByText := true, laidKinds := [.sentinel, .sentinel, .sentinel, .sentinel, .sentinel, .sentinel, .sentinel, .sentinel, .sentinel, .sentinel, .sentinel, .sentinel, .sentinel, .sentinel], laidTests := true, laidLooks := .later }
def TopoSaysUptoCardSaid : Prop := Claim7.holds Tryz.pinned (.plain (OpenSpec.upto topoSaysSpec)) topoSaysUptoCard

/-- THE SECOND FORM's CARD OF 'rivuletlaw8.TopoOthers'. -/
def topoOthersUptoCard : Claim7 := { stood := { row := topoOthersUptoRow, standIns := [], harness := (true, "5580e560ea05df2c83c814e4928a3da7d503f7fc1ce5cdee0c55c4fee0400026"), looks := true }, kinds := [], alts := [], laidByText := true, laidKinds := [.sentinel, .sentinel, .sentinel, .sentinel, .sentinel, .sentinel, .sentinel], laidTests := true, laidLooks := .later }
def TopoOthersUptoCardSaid : Prop := Claim7.holds Tryz.pinned (.plain (OpenSpec.upto topoOthersSpec)) topoOthersUptoCard

/-- THE SECOND FORM's CARD OF 'rivuletlaw10.RootOne'. -/
def rootOneUptoCard : Claim7 := { stood := { row := rootOneUptoRow, standIns := [], harness := (true, "5580e560ea05df2c83c814e4928a3da7d503f7fc1ce5cdee0c55c4fee0400026"), looks := true }, kinds := [], alts := [], laidByText := true, laidKinds := [.sentinel, .sentinel, .sentinel, .sentinel, .sentinel, .sentinel, .sentinel], laidTests := true, laidLooks := .later }
def RootOneUptoCardSaid : Prop := Claim7.holds Tryz.pinned (.plain (OpenSpec.upto rootOneSpec)) rootOneUptoCard

/-- THE SECOND FORM's CARD OF 'rivuletlaw10.RootSays'. -/
def rootSaysUptoCard : Claim7 := { stood := { row := rootSaysUptoRow, standIns := [], harness := (true, "5580e560ea05df2c83c814e4928a3da7d503f7fc1ce5cdee0c55c4fee0400026"), looks := true }, kinds := [], alts := [], laidByText := true, laidKinds := [.sentinel, .sentinel, .sentinel, .sentinel, .sentinel, .sentinel, .sentinel], laidTests := true, laidLooks := .later }
def RootSaysUptoCardSaid : Prop := Claim7.holds Tryz.pinned (.plain (OpenSpec.upto rootSaysSpec)) rootSaysUptoCard

/-- THE SECOND FORM's CARD OF 'rivuletlaw10.RootNone'. -/
def rootNoneUptoCard : Claim7 := { stood := { row := rootNoneUptoRow, standIns := [], harness := (true, "5580e560ea05df2c83c814e4928a3da7d503f7fc1ce5cdee0c55c4fee0400026"), looks := true }, kinds := [], alts := [], laidByText := true, laidKinds := [.sentinel, .sentinel, .sentinel, .sentinel, .sentinel, .sentinel, .sentinel], laidTests := true, laidLooks := .later }
def RootNoneUptoCardSaid : Prop := Claim7.holds Tryz.pinned (.plain (OpenSpec.upto rootNoneSpec)) rootNoneUptoCard

/-- THE SECOND FORM's CARD OF 'rivuletlaw11.RpfSays'. -/
def rpfSaysUptoCard : Claim7 := { stood := { row := rpfSaysUptoRow, standIns := [], harness := (true, "5580e560ea05df2c83c814e4928a3da7d503f7fc1ce5cdee0c55c4fee0400026"), looks := true }, kinds := [], alts := [], laidByText := true, laidKinds := [.sentinel, .sentinel, .sentinel, .sentinel, .sentinel, .sentinel, .sentinel], laidTests := true, laidLooks := .later }
def RpfSaysUptoCardSaid : Prop := Claim7.holds Tryz.pinned (.plain (OpenSpec.upto rpfSaysSpec)) rpfSaysUptoCard

/-- THE SECOND FORM's CARD OF 'rivuletlaw11.RpfUp'. -/
def rpfUpUptoCard : Claim7 := { stood := { row := rpfUpUptoRow, standIns := [], harness := (true, "5580e560ea05df2c83c814e4928a3da7d503f7fc1ce5cdee0c55c4fee0400026"), looks := true }, kinds := [], alts := [], laidByText := true, laidKinds := [.sentinel, .sentinel, .sentinel, .sentinel, .sentinel, .sentinel, .sentinel], laidTests := true, laidLooks := .later }
def RpfUpUptoCardSaid : Prop := Claim7.holds Tryz.pinned (.plain (OpenSpec.upto rpfUpSpec)) rpfUpUptoCard

/-- THE SECOND FORM's CARD OF 'rivuletlaw11.RpfChains'. -/
def rpfChainsUptoCard : Claim7 := { stood := { row := rpfChainsUptoRow, standIns := [], harness := (true, "5580e560ea05df2c83c814e4928a3da7d503f7fc1ce5cdee0c55c4fee0400026"), looks := true }, kinds := [], alts := [], laidByText := true, laidKinds := [.sentinel, .sentinel, .sentinel, .sentinel, .sentinel, .sentinel, .sentinel], laidTests := true, laidLooks := .later }
def RpfChainsUptoCardSaid : Prop := Claim7.holds Tryz.pinned (.plain (OpenSpec.upto rpfChainsSpec)) rpfChainsUptoCard

/-- THE SECOND FORM's CARD OF 'rivuletlaw12.SeatSays'. -/
def seatSaysUptoCard : Claim7 := { stood := { row := seatSaysUptoRow, standIns := [], harness := (true, "5580e560ea05df2c83c814e4928a3da7d503f7fc1ce5cdee0c55c4fee0400026"), looks := true }, kinds := [], alts := [], laidByText := true, laidKinds := [.sentinel, .sentinel, .sentinel, .sentinel, .sentinel, .sentinel, .sentinel], laidTests := true, laidLooks := .later }
def SeatSaysUptoCardSaid : Prop := Claim7.holds Tryz.pinned (.plain (OpenSpec.upto seatSaysSpec)) seatSaysUptoCard

/-- THE SECOND FORM's CARD OF 'rivuletlaw12.SeatRanks'. -/
def seatRanksUptoCard : Claim7 := { stood := { row := seatRanksUptoRow, standIns := [], harness := (true, "5580e560ea05df2c83c814e4928a3da7d503f7fc1ce5cdee0c55c4fee0400026"), looks := true }, kinds := [], alts := [], laidByText := true, laidKinds := [.sentinel, .sentinel, .sentinel, .sentinel, .sentinel, .sentinel, .sentinel], laidTests := true, laidLooks := .later }
def SeatRanksUptoCardSaid : Prop := Claim7.holds Tryz.pinned (.plain (OpenSpec.upto seatRanksSpec)) seatRanksUptoCard

/-- THE SECOND FORM's CARD OF 'rivuletlaw13.QuerSays'. -/
def querSaysUptoCard : Claim7 := { stood := { row := querSaysUptoRow, standIns := [], harness := (true, "5580e560ea05df2c83c814e4928a3da7d503f7fc1ce5cdee0c55c4fee0400026"), looks := true }, kinds := [], alts := [], laidByText := true, laidKinds := [.sentinel, .sentinel, .sentinel, .sentinel, .sentinel, .sentinel, .sentinel], laidTests := true, laidLooks := .later }
def QuerSaysUptoCardSaid : Prop := Claim7.holds Tryz.pinned (.plain (OpenSpec.upto querSaysSpec)) querSaysUptoCard
end Rows
end Go.Proofs.YtbeoalmcibnpaaaGreatDoor
