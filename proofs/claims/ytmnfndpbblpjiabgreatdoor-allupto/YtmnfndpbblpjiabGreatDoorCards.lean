/-
  DERIVED. GIVEN WITH THE SEED: THE CARDS: each row of YtmnfndpbblpjiabGreatDoorRows.lean that lists a variable, with what it lists TIED to the program's text (the seventh form; the later family's looks); each row that meets fmt, with fmt's text TOLD by the authors' own Lean function (tested against real Go, not proved from fmt's source: count such statements apart). THE CARD IS WHAT COUNTS. Prove the row's statement (the work); the ties are given (YtmnfndpbblpjiabGreatDoorTie.lean); close each card by the builder's one call (the guide's Derived/Test/ToyasCard.lean, 'card_holds'). Laid BY PROGRAM, IN A SANDBOX (cutbox-door.mjs). By AI agents, Wed Nov 11 2026. No macro, syntax, notation, axiom, sorry.
-/
import Derived.Test.YtmnfndpbblpjiabGreatDoorRows
import GoSem.ClaimSeven
namespace Go.Proofs.YtmnfndpbblpjiabGreatDoor
namespace Rows

/-- THE TIED CARD OF 'rulerkeep.Sides'. -/
def sidesCard : Claim7 := { stood := { row := sidesRow, standIns := [], harness := (true, "c93b80eb3565c23d6b4138684b89e565253666031e4a94a12d11a406ccbe8d28"), looks := false }, kinds := [], alts := [], laidByText := true, laidKinds := [.data, .data, .data], laidTests := true, laidLooks := .later }
def SidesCardSaid : Prop := Claim7.holds Tryz.pinned (.plain (OpenSpec.ofChange sidesSpec)) sidesCard

/-- THE TIED CARD OF 'rulerkeep.Turned'. -/
def turnedCard : Claim7 := { stood := { row := turnedRow, standIns := [], harness := (true, "c93b80eb3565c23d6b4138684b89e565253666031e4a94a12d11a406ccbe8d28"), looks := false }, kinds := [], alts := [], laidByText := true, laidKinds := [.data, .data, .data], laidTests := true, laidLooks := .later }
def TurnedCardSaid : Prop := Claim7.holds Tryz.pinned (.plain (OpenSpec.ofChange turnedSpec)) turnedCard

/-- THE TIED CARD OF 'rulerkeep.Moved'. -/
def movedCard : Claim7 := { stood := { row := movedRow, standIns := [], harness := (true, "c93b80eb3565c23d6b4138684b89e565253666031e4a94a12d11a406ccbe8d28"), looks := false }, kinds := [], alts := [], laidByText := true, laidKinds := [.data, .data, .data], laidTests := true, laidLooks := .later }
def MovedCardSaid : Prop := Claim7.holds Tryz.pinned (.plain (OpenSpec.ofChange movedSpec)) movedCard

/-- THE TIED CARD OF 'rulerlaw.Compiles'. -/
def compilesCard : Claim7 := { stood := { row := compilesRow, standIns := [], harness := (true, "c93b80eb3565c23d6b4138684b89e565253666031e4a94a12d11a406ccbe8d28"), looks := false }, kinds := [], alts := [], laidByText := true, laidKinds := [.data, .data, .data], laidTests := true, laidLooks := .later }
def CompilesCardSaid : Prop := Claim7.holds Tryz.pinned (.plain (OpenSpec.ofChange compilesSpec)) compilesCard

/-- THE TIED CARD OF 'rulerkeep.Means'. -/
def meansCard : Claim7 := { stood := { row := meansRow, standIns := [], harness := (true, "c93b80eb3565c23d6b4138684b89e565253666031e4a94a12d11a406ccbe8d28"), looks := false }, kinds := [], alts := [], laidByText := true, laidKinds := [.data, .data, .data], laidTests := true, laidLooks := .later }
def MeansCardSaid : Prop := Claim7.holds Tryz.pinned (.plain (OpenSpec.ofChange meansSpec)) meansCard

/-- THE TIED CARD OF 'rulerlaw.All'. -/
def allCard : Claim7 := { stood := { row := allRow, standIns := [], harness := (true, "c93b80eb3565c23d6b4138684b89e565253666031e4a94a12d11a406ccbe8d28"), looks := false }, kinds := [], alts := [], laidByText := true, laidKinds := [.data, .data, .data], laidTests := true, laidLooks := .later }
def AllCardSaid : Prop := Claim7.holds Tryz.pinned (.plain (OpenSpec.ofChange allSpec)) allCard

/-- THE SECOND FORM's CARD OF 'rulerkeep.Sides'. -/
def sidesUptoCard : Claim7 := { stood := { row := sidesUptoRow, standIns := [], harness := (true, "c93b80eb3565c23d6b4138684b89e565253666031e4a94a12d11a406ccbe8d28"), looks := false }, kinds := [], alts := [], laidByText := true, laidKinds := [.data, .data, .data], laidTests := true, laidLooks := .later }
def SidesUptoCardSaid : Prop := Claim7.holds Tryz.pinned (.plain (OpenSpec.upto sidesSpec)) sidesUptoCard

/-- THE SECOND FORM's CARD OF 'rulerkeep.Turned'. -/
def turnedUptoCard : Claim7 := { stood := { row := turnedUptoRow, standIns := [], harness := (true, "c93b80eb3565c23d6b4138684b89e565253666031e4a94a12d11a406ccbe8d28"), looks := false }, kinds := [], alts := [], laidByText := true, laidKinds := [.data, .data, .data], laidTests := true, laidLooks := .later }
def TurnedUptoCardSaid : Prop := Claim7.holds Tryz.pinned (.plain (OpenSpec.upto turnedSpec)) turnedUptoCard

/-- THE SECOND FORM's CARD OF 'rulerkeep.Moved'. -/
def movedUptoCard : Claim7 := { stood := { row := movedUptoRow, standIns := [], harness := (true, "c93b80eb3565c23d6b4138684b89e565253666031e4a94a12d11a406ccbe8d28"), looks := false }, kinds := [], alts := [], laidByText := true, laidKinds := [.data, .data, .data], laidTests := true, laidLooks := .later }
def MovedUptoCardSaid : Prop := Claim7.holds Tryz.pinned (.plain (OpenSpec.upto movedSpec)) movedUptoCard

/-- THE SECOND FORM's CARD OF 'rulerlaw.Compiles'. -/
def compilesUptoCard : Claim7 := { stood := { row := compilesUptoRow, standIns := [], harness := (true, "c93b80eb3565c23d6b4138684b89e565253666031e4a94a12d11a406ccbe8d28"), looks := false }, kinds := [], alts := [], laidByText := true, laidKinds := [.data, .data, .data], laidTests := true, laidLooks := .later }
def CompilesUptoCardSaid : Prop := Claim7.holds Tryz.pinned (.plain (OpenSpec.upto compilesSpec)) compilesUptoCard

/-- THE SECOND FORM's CARD OF 'rulerkeep.Means'. -/
def meansUptoCard : Claim7 := { stood := { row := meansUptoRow, standIns := [], harness := (true, "c93b80eb3565c23d6b4138684b89e565253666031e4a94a12d11a406ccbe8d28"), looks := false }, kinds := [], alts := [], laidByText := true, laidKinds := [.data, .data, .data], laidTests := true, laidLooks := .later }
def MeansUptoCardSaid : Prop := Claim7.holds Tryz.pinned (.plain (OpenSpec.upto meansSpec)) meansUptoCard

/-- THE SECOND FORM's CARD OF 'rulerlaw.All'. -/
def allUptoCard : Claim7 := { stood := { row := allUptoRow, standIns := [], harness := (true, "c93b80eb3565c23d6b4138684b89e565253666031e4a94a12d11a406ccbe8d28"), looks := false }, kinds := [], alts := [], laidByText := true, laidKinds := [.data, .data, .data], laidTests := true, laidLooks := .later }
def AllUptoCardSaid : Prop := Claim7.holds Tryz.pinned (.plain (OpenSpec.upto allSpec)) allUptoCard
end Rows
end Go.Proofs.YtmnfndpbblpjiabGreatDoor
