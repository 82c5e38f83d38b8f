/-
  DERIVED. GIVEN WITH THE SEED: THE CARDS: each row of YtfidicbknjoafaaGreatDoorRows.lean that lists a variable, with what it lists TIED to the program's text (the seventh form; the later family's looks); each row that meets fmt, with fmt's text TOLD by the authors' own Lean function (tested against real Go, not proved from fmt's source: count such statements apart). THE CARD IS WHAT COUNTS. Prove the row's statement (the work); the ties are given (YtfidicbknjoafaaGreatDoorTie.lean); close each card by the builder's one call (the guide's Derived/Test/ToyasCard.lean, 'card_holds'). Laid BY PROGRAM, IN A SANDBOX (cutbox-door.mjs). By AI agents, Wed Nov 11 2026. No macro, syntax, notation, axiom, sorry.
-/
import Derived.Test.YtfidicbknjoafaaGreatDoorRows
import GoSem.ClaimSeven
namespace Go.Proofs.YtfidicbknjoafaaGreatDoor
namespace Rows

/-- THE TIED CARD OF 'rivuletlaw9.RibSays'. -/
def ribSaysCard : Claim7 := { stood := { row := ribSaysRow, standIns := [], harness := (true, "a23e29670eed23e7d08e0246b8a034331b767ebc1648830d081ca39eefff954e"), looks := false }, kinds := [], alts := [], laidByText := true, laidKinds := [.sentinel, .sentinel, .sentinel, .sentinel, .sentinel, .sentinel, .sentinel], laidTests := true, laidLooks := .later }
def RibSaysCardSaid : Prop := Claim7.holds Tryz.pinned (.plain (OpenSpec.ofChange ribSaysSpec)) ribSaysCard

/-- THE TIED CARD OF 'rivuletlaw11.RpfSays'. -/
def rpfSaysCard : Claim7 := { stood := { row := rpfSaysRow, standIns := [], harness := (true, "a23e29670eed23e7d08e0246b8a034331b767ebc1648830d081ca39eefff954e"), looks := false }, kinds := [], alts := [], laidByText := true, laidKinds := [.sentinel, .sentinel, .sentinel, .sentinel, .sentinel, .sentinel, .sentinel], laidTests := true, laidLooks := .later }
def RpfSaysCardSaid : Prop := Claim7.holds Tryz.pinned (.plain (OpenSpec.ofChange rpfSaysSpec)) rpfSaysCard

/-- THE TIED CARD OF 'rivuletlaw17.WantSays'. -/
def wantSaysCard : Claim7 := { stood := { row := wantSaysRow, standIns := [], harness := (true, "a23e29670eed23e7d08e0246b8a034331b767ebc1648830d081ca39eefff954e"), looks := false }, kinds := [], alts := [], laidByText := true, laidKinds := [.sentinel, .sentinel, .sentinel, .sentinel, .sentinel, .sentinel, .sentinel], laidTests := true, laidLooks := .later }
def WantSaysCardSaid : Prop := Claim7.holds Tryz.pinned (.plain (OpenSpec.ofChange wantSaysSpec)) wantSaysCard

/-- THE TIED CARD OF 'rivuletlaw17.WantGrows'. -/
def wantGrowsCard : Claim7 := { stood := { row := wantGrowsRow, standIns := [], harness := (true, "a23e29670eed23e7d08e0246b8a034331b767ebc1648830d081ca39eefff954e"), looks := false }, kinds := [], alts := [], laidByText := true, laidKinds := [.sentinel, .sentinel, .sentinel, .sentinel, .sentinel, .sentinel, .sentinel], laidTests := true, laidLooks := .later }
def WantGrowsCardSaid : Prop := Claim7.holds Tryz.pinned (.plain (OpenSpec.ofChange wantGrowsSpec)) wantGrowsCard

/-- THE TIED CARD OF 'rivuletlaw17.WantRoots'. -/
def wantRootsCard : Claim7 := { stood := { row := wantRootsRow, standIns := [], harness := (true, "a23e29670eed23e7d08e0246b8a034331b767ebc1648830d081ca39eefff954e"), looks := false }, kinds := [], alts := [], laidByText := true, laidKinds := [.sentinel, .sentinel, .sentinel, .sentinel, .sentinel, .sentinel, .sentinel], laidTests := true, laidLooks := .later }
def WantRootsCardSaid : Prop := Claim7.holds Tryz.pinned (.plain (OpenSpec.ofChange wantRootsSpec)) wantRootsCard

/-- THE TIED CARD OF 'rivuletlaw17.WantOut'. -/
def wantOutCard : Claim7 := { stood := { row := wantOutRow, standIns := [], harness := (true, "a23e29670eed23e7d08e0246b8a034331b767ebc1648830d081ca39eefff954e"), looks := false }, kinds := [], alts := [], laidByText := true, laidKinds := [.sentinel, .sentinel, .sentinel, .sentinel, .sentinel, .sentinel, .sentinel], laidTests := true, laidLooks := .later }
def WantOutCardSaid : Prop := Claim7.holds Tryz.pinned (.plain (OpenSpec.ofChange wantOutSpec)) wantOutCard

/-- THE TIED CARD OF 'rivuletlaw17.WantSends'. -/
def wantSendsCard : Claim7 := { stood := { row := wantSendsRow, standIns := [], harness := (true, "a23e29670eed23e7d08e0246b8a034331b767ebc1648830d081ca39eefff954e"), looks := false }, kinds := [], alts := [], laidByText := true, laidKinds := [.sentinel, .sentinel, .sentinel, .sentinel, .sentinel, .sentinel, .sentinel], laidTests := true, laidLooks := .later }
def WantSendsCardSaid : Prop := Claim7.holds Tryz.pinned (.plain (OpenSpec.ofChange wantSendsSpec)) wantSendsCard

/-- THE SECOND FORM's CARD OF 'rivuletlaw9.RibSays'. -/
def ribSaysUptoCard : Claim7 := { stood := { row := ribSaysUptoRow, standIns := [], harness := (true, "a23e29670eed23e7d08e0246b8a034331b767ebc1648830d081ca39eefff954e"), looks := false }, kinds := [], alts := [], laidByText := true, laidKinds := [.sentinel, .sentinel, .sentinel, .sentinel, .sentinel, .sentinel, .sentinel], laidTests := true, laidLooks := .later }
def RibSaysUptoCardSaid : Prop := Claim7.holds Tryz.pinned (.plain (OpenSpec.upto ribSaysSpec)) ribSaysUptoCard

/-- THE SECOND FORM's CARD OF 'rivuletlaw11.RpfSays'. -/
def rpfSaysUptoCard : Claim7 := { stood := { row := rpfSaysUptoRow, standIns := [], harness := (true, "a23e29670eed23e7d08e0246b8a034331b767ebc1648830d081ca39eefff954e"), looks := false }, kinds := [], alts := [], laidByText := true, laidKinds := [.sentinel, .sentinel, .sentinel, .sentinel, .sentinel, .sentinel, .sentinel], laidTests := true, laidLooks := .later }
def RpfSaysUptoCardSaid : Prop := Claim7.holds Tryz.pinned (.plain (OpenSpec.upto rpfSaysSpec)) rpfSaysUptoCard

/-- THE SECOND FORM's CARD OF 'rivuletlaw17.WantSays'. -/
def wantSaysUptoCard : Claim7 := { stood := { row := wantSaysUptoRow, standIns := [], harness := (true, "a23e29670eed23e7d08e0246b8a034331b767ebc1648830d081ca39eefff954e"), looks := false }, kinds := [], alts := [], laidByText := true, laidKinds := [.sentinel, .sentinel, .sentinel, .sentinel, .sentinel, .sentinel, .sentinel], laidTests := true, laidLooks := .later }
def WantSaysUptoCardSaid : Prop := Claim7.holds Tryz.pinned (.plain (OpenSpec.upto wantSaysSpec)) wantSaysUptoCard

/-- THE SECOND FORM's CARD OF 'rivuletlaw17.WantGrows'. -/
def wantGrowsUptoCard : Claim7 := { stood := { row := wantGrowsUptoRow, standIns := [], harness := (true, "a23e29670eed23e7d08e0246b8a034331b767ebc1648830d081ca39eefff954e"), looks := false }, kinds := [], alts := [], laidByText := true, laidKinds := [.sentinel, .sentinel, .sentinel, .sentinel, .sentinel, .sentinel, .sentinel], laidTests := true, laidLooks := .later }
def WantGrowsUptoCardSaid : Prop := Claim7.holds Tryz.pinned (.plain (OpenSpec.upto wantGrowsSpec)) wantGrowsUptoCard

/-- THE SECOND FORM's CARD OF 'rivuletlaw17.WantRoots'. -/
def wantRootsUptoCard : Claim7 := { stood := { row := wantRootsUptoRow, standIns := [], harness := (true, "a23e29670eed23e7d08e0246b8a034331b767ebc1648830d081ca39eefff954e"), looks := false }, kinds := [], alts := [], laidByText := true, laidKinds := [.sentinel, .sentinel, .sentinel, .sentinel, .sentinel, .sentinel, .sentinel], laidTests := true, laidLooks := .later }
def WantRootsUptoCardSaid : Prop := Claim7.holds Tryz.pinned (.plain (OpenSpec.upto wantRootsSpec)) wantRootsUptoCard

/-- THE SECOND FORM's CARD OF 'rivuletlaw17.WantOut'. -/
def wantOutUptoCard : Claim7 := { stood := { row := wantOutUptoRow, standIns := [], harness := (true, "a23e29670eed23e7d08e0246b8a034331b767ebc1648830d081ca39eefff954e"), looks := false }, kinds := [], alts := [], laidByText := true, laidKinds := [.sentinel, .sentinel, .sentinel, .sentinel, .sentinel, .sentinel, .sentinel], laidTests := true, laidLooks := .later }
def WantOutUptoCardSaid : Prop := Claim7.holds Tryz.pinned (.plain (OpenSpec.upto wantOutSpec)) wantOutUptoCard

/-- THE SECOND FORM's CARD OF 'rivuletlaw17.WantSends'. -/
def wantSendsUptoCard : Claim7 := { stood := { row := wantSendsUptoRow, standIns := [], harness := (true, "a23e29670eed23e7d08e0246b8a034331b767ebc1648830d081ca39eefff954e"), looks := false }, kinds := [], alts := [], laidByText := true, laidKinds := [.sentinel, .sentinel, .sentinel, .sentinel, .sentinel, .sentinel, .sentinel], laidTests := true, laidLooks := .later }
def WantSendsUptoCardSaid : Prop := Claim7.holds Tryz.pinned (.plain (OpenSpec.upto wantSendsSpec)) wantSendsUptoCard
end Rows
end Go.Proofs.YtfidicbknjoafaaGreatDoor
