/-
  DERIVED. GIVEN WITH THE SEED: THE CARDS: each row of YtdakglahbmeaiaaGreatDoorRows.lean that lists a variable, with what it lists TIED to the program's text (the seventh form; the later family's looks); each row that meets fmt, with fmt's text TOLD by the authors' own Lean function (tested against real Go, not proved from fmt's source: count such statements apart). THE CARD IS WHAT COUNTS. Prove the row's statement (the work); the ties are given (YtdakglahbmeaiaaGreatDoorTie.lean); close each card by the builder's one call (the guide's Derived/Test/ToyasCard.lean, 'card_holds'). Laid BY PROGRAM, IN A SANDBOX (cutbox-door.mjs). By AI agents, Wed Nov 11 2026. No macro, syntax, notation, axiom, sorry.
-/
import Derived.Test.YtdakglahbmeaiaaGreatDoorRows
import GoSem.ClaimSeven
namespace Go.Proofs.YtdakglahbmeaiaaGreatDoor
namespace Rows

/-- THE TIED CARD OF 'rulerlaw.Checks'. -/
def checksCard : Claim7 := { stood := { row := checksRow, standIns := [], harness := (true, "cde39fb4b40ad571b50e9c0f113c3dbeb916af8c48cc94cd1b96e4e90c592ba9"), looks := false }, kinds := [], alts := [], laidByText := true, laidKinds := [.data, .data, .data], laidTests := true, laidLooks := .later }
def ChecksCardSaid : Prop := Claim7.holds Tryz.pinned (.plain (OpenSpec.ofChange checksSpec)) checksCard

/-- THE TIED CARD OF 'rulerlaw.Weighs'. -/
def weighsCard : Claim7 := { stood := { row := weighsRow, standIns := [], harness := (true, "cde39fb4b40ad571b50e9c0f113c3dbeb916af8c48cc94cd1b96e4e90c592ba9"), looks := false }, kinds := [], alts := [], laidByText := true, laidKinds := [.data, .data, .data], laidTests := true, laidLooks := .later }
def WeighsCardSaid : Prop := Claim7.holds Tryz.pinned (.plain (OpenSpec.ofChange weighsSpec)) weighsCard

/-- THE TIED CARD OF 'rulerlaw.Verifies'. -/
def verifiesCard : Claim7 := { stood := { row := verifiesRow, standIns := [], harness := (true, "cde39fb4b40ad571b50e9c0f113c3dbeb916af8c48cc94cd1b96e4e90c592ba9"), looks := false }, kinds := [], alts := [], laidByText := true, laidKinds := [.data, .data, .data], laidTests := true, laidLooks := .later }
def VerifiesCardSaid : Prop := Claim7.holds Tryz.pinned (.plain (OpenSpec.ofChange verifiesSpec)) verifiesCard

/-- THE TIED CARD OF 'rulerlaw.Execs'. -/
def execsCard : Claim7 := { stood := { row := execsRow, standIns := [], harness := (true, "cde39fb4b40ad571b50e9c0f113c3dbeb916af8c48cc94cd1b96e4e90c592ba9"), looks := false }, kinds := [], alts := [], laidByText := true, laidKinds := [.data, .data, .data], laidTests := true, laidLooks := .later }
def ExecsCardSaid : Prop := Claim7.holds Tryz.pinned (.plain (OpenSpec.ofChange execsSpec)) execsCard

/-- THE TIED CARD OF 'rulerlaw.Shrinks'. -/
def shrinksCard : Claim7 := { stood := { row := shrinksRow, standIns := [], harness := (true, "cde39fb4b40ad571b50e9c0f113c3dbeb916af8c48cc94cd1b96e4e90c592ba9"), looks := false }, kinds := [], alts := [], laidByText := true, laidKinds := [.data, .data, .data], laidTests := true, laidLooks := .later }
def ShrinksCardSaid : Prop := Claim7.holds Tryz.pinned (.plain (OpenSpec.ofChange shrinksSpec)) shrinksCard

/-- THE SECOND FORM's CARD OF 'rulerlaw.Checks'. -/
def checksUptoCard : Claim7 := { stood := { row := checksUptoRow, standIns := [], harness := (true, "cde39fb4b40ad571b50e9c0f113c3dbeb916af8c48cc94cd1b96e4e90c592ba9"), looks := false }, kinds := [], alts := [], laidByText := true, laidKinds := [.data, .data, .data], laidTests := true, laidLooks := .later }
def ChecksUptoCardSaid : Prop := Claim7.holds Tryz.pinned (.plain (OpenSpec.upto checksSpec)) checksUptoCard

/-- THE SECOND FORM's CARD OF 'rulerlaw.Weighs'. -/
def weighsUptoCard : Claim7 := { stood := { row := weighsUptoRow, standIns := [], harness := (true, "cde39fb4b40ad571b50e9c0f113c3dbeb916af8c48cc94cd1b96e4e90c592ba9"), looks := false }, kinds := [], alts := [], laidByText := true, laidKinds := [.data, .data, .data], laidTests := true, laidLooks := .later }
def WeighsUptoCardSaid : Prop := Claim7.holds Tryz.pinned (.plain (OpenSpec.upto weighsSpec)) weighsUptoCard

/-- THE SECOND FORM's CARD OF 'rulerlaw.Verifies'. -/
def verifiesUptoCard : Claim7 := { stood := { row := verifiesUptoRow, standIns := [], harness := (true, "cde39fb4b40ad571b50e9c0f113c3dbeb916af8c48cc94cd1b96e4e90c592ba9"), looks := false }, kinds := [], alts := [], laidByText := true, laidKinds := [.data, .data, .data], laidTests := true, laidLooks := .later }
def VerifiesUptoCardSaid : Prop := Claim7.holds Tryz.pinned (.plain (OpenSpec.upto verifiesSpec)) verifiesUptoCard

/-- THE SECOND FORM's CARD OF 'rulerlaw.Execs'. -/
def execsUptoCard : Claim7 := { stood := { row := execsUptoRow, standIns := [], harness := (true, "cde39fb4b40ad571b50e9c0f113c3dbeb916af8c48cc94cd1b96e4e90c592ba9"), looks := false }, kinds := [], alts := [], laidByText := true, laidKinds := [.data, .data, .data], laidTests := true, laidLooks := .later }
def ExecsUptoCardSaid : Prop := Claim7.holds Tryz.pinned (.plain (OpenSpec.upto execsSpec)) execsUptoCard

/-- THE SECOND FORM's CARD OF 'rulerlaw.Shrinks'. -/
def shrinksUptoCard : Claim7 := { stood := { row := shrinksUptoRow, standIns := [], harness := (true, "cde39fb4b40ad571b50e9c0f113c3dbeb916af8c48cc94cd1b96e4e90c592ba9"), looks := false }, kinds := [], alts := [], laidByText := true, laidKinds := [.data, .data, .data], laidTests := true, laidLooks := .later }
def ShrinksUptoCardSaid : Prop := Claim7.holds Tryz.pinned (.plain (OpenSpec.upto shrinksSpec)) shrinksUptoCard
end Rows
end Go.Proofs.YtdakglahbmeaiaaGreatDoor
