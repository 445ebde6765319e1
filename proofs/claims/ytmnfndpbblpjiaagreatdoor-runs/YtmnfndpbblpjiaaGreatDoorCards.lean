/-
  DERIVED. GIVEN WITH THE SEED: THE CARDS: each row of YtmnfndpbblpjiaaGreatDoorRows.lean that lists a variable, with what it lists TIED to the program's text (the seventh form; the later family's looks); each row that meets fmt, with fmt's text TOLD by the authors' own Lean function (tested against real Go, not proved from fmt's source: count such statements apart). THE CARD IS WHAT COUNTS. Prove the row's statement (the work); the ties are given (YtmnfndpbblpjiaaGreatDoorTie.lean); close each card by the builder's one call (the guide's Derived/Test/ToyasCard.lean, 'card_holds'). Laid BY PROGRAM, IN A SANDBOX (cutbox-door.mjs). By AI agents, Wed Nov 11 2026. No macro, syntax, notation, axiom, sorry.
-/
import Derived.Test.YtmnfndpbblpjiaaGreatDoorRows
import GoSem.ClaimSeven
namespace Go.Proofs.YtmnfndpbblpjiaaGreatDoor
namespace Rows

/-- THE TIED CARD OF 'rulerlaw.Checks'. -/
def checksCard : Claim7 := { stood := { row := checksRow, standIns := [], harness := (true, "3bb427bd7f54528d1e767dd86333703e361df8126acb158cc16e40aa3d76f585"), looks := false }, kinds := [], alts := [], laidByText := true, laidKinds := [.data, .data, .data], laidTests := true, laidLooks := .later }
def ChecksCardSaid : Prop := Claim7.holds Tryz.pinned (.plain (OpenSpec.ofChange checksSpec)) checksCard

/-- THE TIED CARD OF 'rulerlaw.Weighs'. -/
def weighsCard : Claim7 := { stood := { row := weighsRow, standIns := [], harness := (true, "3bb427bd7f54528d1e767dd86333703e361df8126acb158cc16e40aa3d76f585"), looks := false }, kinds := [], alts := [], laidByText := true, laidKinds := [.data, .data, .data], laidTests := true, laidLooks := .later }
def WeighsCardSaid : Prop := Claim7.holds Tryz.pinned (.plain (OpenSpec.ofChange weighsSpec)) weighsCard

/-- THE TIED CARD OF 'rulerlaw.Verifies'. -/
def verifiesCard : Claim7 := { stood := { row := verifiesRow, standIns := [], harness := (true, "3bb427bd7f54528d1e767dd86333703e361df8126acb158cc16e40aa3d76f585"), looks := false }, kinds := [], alts := [], laidByText := true, laidKinds := [.data, .data, .data], laidTests := true, laidLooks := .later }
def VerifiesCardSaid : Prop := Claim7.holds Tryz.pinned (.plain (OpenSpec.ofChange verifiesSpec)) verifiesCard

/-- THE TIED CARD OF 'rulerlaw.Execs'. -/
def execsCard : Claim7 := { stood := { row := execsRow, standIns := [], harness := (true, "3bb427bd7f54528d1e767dd86333703e361df8126acb158cc16e40aa3d76f585"), looks := false }, kinds := [], alts := [], laidByText := true, laidKinds := [.data, .data, .data], laidTests := true, laidLooks := .later }
def ExecsCardSaid : Prop := Claim7.holds Tryz.pinned (.plain (OpenSpec.ofChange execsSpec)) execsCard

/-- THE TIED CARD OF 'rulerlaw.Shrinks'. -/
def shrinksCard : Claim7 := { stood := { row := shrinksRow, standIns := [], harness := (true, "3bb427bd7f54528d1e767dd86333703e361df8126acb158cc16e40aa3d76f585"), looks := false }, kinds := [], alts := [], laidByText := true, laidKinds := [.data, .data, .data], laidTests := true, laidLooks := .later }
def ShrinksCardSaid : Prop := Claim7.holds Tryz.pinned (.plain (OpenSpec.ofChange shrinksSpec)) shrinksCard

/-- THE TIED CARD OF 'rulerlaw.Runs'. -/
def runsCard : Claim7 := { stood := { row := runsRow, standIns := [], harness := (true, "3bb427bd7f54528d1e767dd86333703e361df8126acb158cc16e40aa3d76f585"), looks := false }, kinds := [], alts := [], laidByText := true, laidKinds := [.data, .data, .data], laidTests := true, laidLooks := .later }
def RunsCardSaid : Prop := Claim7.holds Tryz.pinned (.plain (OpenSpec.ofChange runsSpec)) runsCard

/-- THE TIED CARD OF 'rulerkeep.Medians'. -/
def mediansCard : Claim7 := { stood := { row := mediansRow, standIns := [], harness := (true, "3bb427bd7f54528d1e767dd86333703e361df8126acb158cc16e40aa3d76f585"), looks := false }, kinds := [], alts := [], laidByText := true, laidKinds := [.data, .data, .data], laidTests := true, laidLooks := .later }
def MediansCardSaid : Prop := Claim7.holds Tryz.pinned (.plain (OpenSpec.ofChange mediansSpec)) mediansCard

/-- THE TIED CARD OF 'rulerkeep.Heights'. -/
def heightsCard : Claim7 := { stood := { row := heightsRow, standIns := [], harness := (true, "3bb427bd7f54528d1e767dd86333703e361df8126acb158cc16e40aa3d76f585"), looks := false }, kinds := [], alts := [], laidByText := true, laidKinds := [.data, .data, .data], laidTests := true, laidLooks := .later }
def HeightsCardSaid : Prop := Claim7.holds Tryz.pinned (.plain (OpenSpec.ofChange heightsSpec)) heightsCard

/-- THE TIED CARD OF 'rulerkeep.Chord'. -/
def chordCard : Claim7 := { stood := { row := chordRow, standIns := [], harness := (true, "3bb427bd7f54528d1e767dd86333703e361df8126acb158cc16e40aa3d76f585"), looks := false }, kinds := [], alts := [], laidByText := true, laidKinds := [.data, .data, .data], laidTests := true, laidLooks := .later }
def ChordCardSaid : Prop := Claim7.holds Tryz.pinned (.plain (OpenSpec.ofChange chordSpec)) chordCard

/-- THE TIED CARD OF 'rulerkeep.Nine'. -/
def nineCard : Claim7 := { stood := { row := nineRow, standIns := [], harness := (true, "3bb427bd7f54528d1e767dd86333703e361df8126acb158cc16e40aa3d76f585"), looks := false }, kinds := [], alts := [], laidByText := true, laidKinds := [.data, .data, .data], laidTests := true, laidLooks := .later }
def NineCardSaid : Prop := Claim7.holds Tryz.pinned (.plain (OpenSpec.ofChange nineSpec)) nineCard

/-- THE SECOND FORM's CARD OF 'rulerlaw.Checks'. -/
def checksUptoCard : Claim7 := { stood := { row := checksUptoRow, standIns := [], harness := (true, "3bb427bd7f54528d1e767dd86333703e361df8126acb158cc16e40aa3d76f585"), looks := false }, kinds := [], alts := [], laidByText := true, laidKinds := [.data, .data, .data], laidTests := true, laidLooks := .later }
def ChecksUptoCardSaid : Prop := Claim7.holds Tryz.pinned (.plain (OpenSpec.upto checksSpec)) checksUptoCard

/-- THE SECOND FORM's CARD OF 'rulerlaw.Weighs'. -/
def weighsUptoCard : Claim7 := { stood := { row := weighsUptoRow, standIns := [], harness := (true, "3bb427bd7f54528d1e767dd86333703e361df8126acb158cc16e40aa3d76f585"), looks := false }, kinds := [], alts := [], laidByText := true, laidKinds := [.data, .data, .data], laidTests := true, laidLooks := .later }
def WeighsUptoCardSaid : Prop := Claim7.holds Tryz.pinned (.plain (OpenSpec.upto weighsSpec)) weighsUptoCard

/-- THE SECOND FORM's CARD OF 'rulerlaw.Verifies'. -/
def verifiesUptoCard : Claim7 := { stood := { row := verifiesUptoRow, standIns := [], harness := (true, "3bb427bd7f54528d1e767dd86333703e361df8126acb158cc16e40aa3d76f585"), looks := false }, kinds := [], alts := [], laidByText := true, laidKinds := [.data, .data, .data], laidTests := true, laidLooks := .later }
def VerifiesUptoCardSaid : Prop := Claim7.holds Tryz.pinned (.plain (OpenSpec.upto verifiesSpec)) verifiesUptoCard

/-- THE SECOND FORM's CARD OF 'rulerlaw.Execs'. -/
def execsUptoCard : Claim7 := { stood := { row := execsUptoRow, standIns := [], harness := (true, "3bb427bd7f54528d1e767dd86333703e361df8126acb158cc16e40aa3d76f585"), looks := false }, kinds := [], alts := [], laidByText := true, laidKinds := [.data, .data, .data], laidTests := true, laidLooks := .later }
def ExecsUptoCardSaid : Prop := Claim7.holds Tryz.pinned (.plain (OpenSpec.upto execsSpec)) execsUptoCard

/-- THE SECOND FORM's CARD OF 'rulerlaw.Shrinks'. -/
def shrinksUptoCard : Claim7 := { stood := { row := shrinksUptoRow, standIns := [], harness := (true, "3bb427bd7f54528d1e767dd86333703e361df8126acb158cc16e40aa3d76f585"), looks := false }, kinds := [], alts := [], laidByText := true, laidKinds := [.data, .data, .data], laidTests := true, laidLooks := .later }
def ShrinksUptoCardSaid : Prop := Claim7.holds Tryz.pinned (.plain (OpenSpec.upto shrinksSpec)) shrinksUptoCard

/-- THE SECOND FORM's CARD OF 'rulerlaw.Runs'. -/
def runsUptoCard : Claim7 := { stood := { row := runsUptoRow, standIns := [], harness := (true, "3bb427bd7f54528d1e767dd86333703e361df8126acb158cc16e40aa3d76f585"), looks := false }, kinds := [], alts := [], laidByText := true, laidKinds := [.data, .data, .data], laidTests := true, laidLooks := .later }
def RunsUptoCardSaid : Prop := Claim7.holds Tryz.pinned (.plain (OpenSpec.upto runsSpec)) runsUptoCard

/-- THE SECOND FORM's CARD OF 'rulerkeep.Medians'. -/
def mediansUptoCard : Claim7 := { stood := { row := mediansUptoRow, standIns := [], harness := (true, "3bb427bd7f54528d1e767dd86333703e361df8126acb158cc16e40aa3d76f585"), looks := false }, kinds := [], alts := [], laidByText := true, laidKinds := [.data, .data, .data], laidTests := true, laidLooks := .later }
def MediansUptoCardSaid : Prop := Claim7.holds Tryz.pinned (.plain (OpenSpec.upto mediansSpec)) mediansUptoCard

/-- THE SECOND FORM's CARD OF 'rulerkeep.Heights'. -/
def heightsUptoCard : Claim7 := { stood := { row := heightsUptoRow, standIns := [], harness := (true, "3bb427bd7f54528d1e767dd86333703e361df8126acb158cc16e40aa3d76f585"), looks := false }, kinds := [], alts := [], laidByText := true, laidKinds := [.data, .data, .data], laidTests := true, laidLooks := .later }
def HeightsUptoCardSaid : Prop := Claim7.holds Tryz.pinned (.plain (OpenSpec.upto heightsSpec)) heightsUptoCard

/-- THE SECOND FORM's CARD OF 'rulerkeep.Chord'. -/
def chordUptoCard : Claim7 := { stood := { row := chordUptoRow, standIns := [], harness := (true, "3bb427bd7f54528d1e767dd86333703e361df8126acb158cc16e40aa3d76f585"), looks := false }, kinds := [], alts := [], laidByText := true, laidKinds := [.data, .data, .data], laidTests := true, laidLooks := .later }
def ChordUptoCardSaid : Prop := Claim7.holds Tryz.pinned (.plain (OpenSpec.upto chordSpec)) chordUptoCard

/-- THE SECOND FORM's CARD OF 'rulerkeep.Nine'. -/
def nineUptoCard : Claim7 := { stood := { row := nineUptoRow, standIns := [], harness := (true, "3bb427bd7f54528d1e767dd86333703e361df8126acb158cc16e40aa3d76f585"), looks := false }, kinds := [], alts := [], laidByText := true, laidKinds := [.data, .data, .data], laidTests := true, laidLooks := .later }
def NineUptoCardSaid : Prop := Claim7.holds Tryz.pinned (.plain (OpenSpec.upto nineSpec)) nineUptoCard
end Rows
end Go.Proofs.YtmnfndpbblpjiaaGreatDoor
