/-
  DERIVED. GIVEN WITH THE SEED: THE CARDS: each row of YtmnfndpbblpjiaaDoorRows.lean that lists a variable, with what it lists TIED to the program's text (the seventh form; the later family's looks); each row that meets fmt, with fmt's text TOLD by the authors' own Lean function (tested against real Go, not proved from fmt's source: count such statements apart). THE CARD IS WHAT COUNTS. Prove the row's statement (the work); the ties are given (YtmnfndpbblpjiaaDoorTie.lean); close each card by the builder's one call (the guide's Derived/Test/ToyasCard.lean, 'card_holds'). Laid BY PROGRAM, IN A SANDBOX (cutbox-door.mjs). By AI agents, Wed Nov 11 2026. No macro, syntax, notation, axiom, sorry.
-/
import Derived.Test.YtmnfndpbblpjiaaDoorRows
import GoSem.ClaimSeven
namespace Go.Proofs.YtmnfndpbblpjiaaDoor
namespace Rows

/-- THE TIED CARD OF 'rulerkeep.Squares'. -/
def squaresCard : Claim7 := { stood := { row := squaresRow, standIns := [], harness := (true, "a0e966fac6a5deef80e1cda32e2238c740dd6a4f6ccf81e3bfcd1f3e56eb38d4"), looks := false }, kinds := [], alts := [], laidByText := true, laidKinds := [.data, .data, .data], laidTests := true, laidLooks := .later }
def SquaresCardSaid : Prop := Claim7.holds Tryd.pinned (.plain (OpenSpec.ofChange squaresSpec)) squaresCard

/-- THE TIED CARD OF 'rulerkeep.Shrunk'. -/
def shrunkCard : Claim7 := { stood := { row := shrunkRow, standIns := [], harness := (true, "a0e966fac6a5deef80e1cda32e2238c740dd6a4f6ccf81e3bfcd1f3e56eb38d4"), looks := false }, kinds := [], alts := [], laidByText := true, laidKinds := [.data, .data, .data], laidTests := true, laidLooks := .later }
def ShrunkCardSaid : Prop := Claim7.holds Tryd.pinned (.plain (OpenSpec.ofChange shrunkSpec)) shrunkCard

/-- THE SECOND FORM's CARD OF 'rulerkeep.Squares'. -/
def squaresUptoCard : Claim7 := { stood := { row := squaresUptoRow, standIns := [], harness := (true, "a0e966fac6a5deef80e1cda32e2238c740dd6a4f6ccf81e3bfcd1f3e56eb38d4"), looks := false }, kinds := [], alts := [], laidByText := true, laidKinds := [.data, .data, .data], laidTests := true, laidLooks := .later }
def SquaresUptoCardSaid : Prop := Claim7.holds Tryd.pinned (.plain (OpenSpec.upto squaresSpec)) squaresUptoCard

/-- THE SECOND FORM's CARD OF 'rulerkeep.Shrunk'. -/
def shrunkUptoCard : Claim7 := { stood := { row := shrunkUptoRow, standIns := [], harness := (true, "a0e966fac6a5deef80e1cda32e2238c740dd6a4f6ccf81e3bfcd1f3e56eb38d4"), looks := false }, kinds := [], alts := [], laidByText := true, laidKinds := [.data, .data, .data], laidTests := true, laidLooks := .later }
def ShrunkUptoCardSaid : Prop := Claim7.holds Tryd.pinned (.plain (OpenSpec.upto shrunkSpec)) shrunkUptoCard
end Rows
end Go.Proofs.YtmnfndpbblpjiaaDoor
