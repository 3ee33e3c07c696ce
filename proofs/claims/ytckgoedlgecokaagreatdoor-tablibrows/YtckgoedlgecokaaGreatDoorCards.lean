/-
  DERIVED. GIVEN WITH THE SEED: THE CARDS: each row of YtckgoedlgecokaaGreatDoorRows.lean that lists a variable, with what it lists TIED to the program's text (the seventh form; the later family's looks); each row that meets fmt, with fmt's text TOLD by the authors' own Lean function (tested against real Go, not proved from fmt's source: count such statements apart). THE CARD IS WHAT COUNTS. Prove the row's statement (the work); the ties are given (YtckgoedlgecokaaGreatDoorTie.lean); close each card by the builder's one call (the guide's Derived/Test/ToyasCard.lean, 'card_holds'). Laid BY PROGRAM, IN A SANDBOX (cutbox-door.mjs). By AI agents, Wed Nov 11 2026. No macro, syntax, notation, axiom, sorry.
-/
import Derived.Test.YtckgoedlgecokaaGreatDoorRows
import GoSem.ClaimSeven
namespace Go.Proofs.YtckgoedlgecokaaGreatDoor
namespace Rows

/-- THE TIED CARD OF 'trestlelaw15.TablibRows'. -/
def tablibRowsCard : Claim7 := { stood := { row := tablibRowsRow, standIns := [], harness := (true, "4be5888e3973fe20e5e77f8a52dc87e7d49201fc14c7df0ba4477a5e7515e4d1"), looks := true }, kinds := [], alts := [], laidByText := true, laidKinds := [.data, .data, .data], laidTests := true, laidLooks := .later }
def TablibRowsCardSaid : Prop := Claim7.holds Tryz.pinned (.plain (OpenSpec.ofChange tablibRowsSpec)) tablibRowsCard

/-- THE TIED CARD OF 'trestlelaw15.TablibTexts'. -/
def tablibTextsCard : Claim7 := { stood := { row := tablibTextsRow, standIns := [], harness := (true, "4be5888e3973fe20e5e77f8a52dc87e7d49201fc14c7df0ba4477a5e7515e4d1"), looks := true }, kinds := [], alts := [], laidByText := true, laidKinds := [.data, .data, .data], laidTests := true, laidLooks := .later }
def TablibTextsCardSaid : Prop := Claim7.holds Tryz.pinned (.plain (OpenSpec.ofChange tablibTextsSpec)) tablibTextsCard

/-- THE TIED CARD OF 'trestlelaw15.TablibMoves'. -/
def tablibMovesCard : Claim7 := { stood := { row := tablibMovesRow, standIns := [], harness := (true, "4be5888e3973fe20e5e77f8a52dc87e7d49201fc14c7df0ba4477a5e7515e4d1"), looks := true }, kinds := [], alts := [], laidByText := true, laidKinds := [.data, .data, .data], laidTests := true, laidLooks := .later }
def TablibMovesCardSaid : Prop := Claim7.holds Tryz.pinned (.plain (OpenSpec.ofChange tablibMovesSpec)) tablibMovesCard

/-- THE TIED CARD OF 'trestlelaw15.TablibFuel'. -/
def tablibFuelCard : Claim7 := { stood := { row := tablibFuelRow, standIns := [], harness := (true, "4be5888e3973fe20e5e77f8a52dc87e7d49201fc14c7df0ba4477a5e7515e4d1"), looks := true }, kinds := [], alts := [], laidByText := true, laidKinds := [.data, .data, .data], laidTests := true, laidLooks := .later }
def TablibFuelCardSaid : Prop := Claim7.holds Tryz.pinned (.plain (OpenSpec.ofChange tablibFuelSpec)) tablibFuelCard

/-- THE TIED CARD OF 'trestlelaw15.TablibStack'. -/
def tablibStackCard : Claim7 := { stood := { row := tablibStackRow, standIns := [], harness := (true, "4be5888e3973fe20e5e77f8a52dc87e7d49201fc14c7df0ba4477a5e7515e4d1"), looks := true }, kinds := [], alts := [], laidByText := true, laidKinds := [.data, .data, .data], laidTests := true, laidLooks := .later }
def TablibStackCardSaid : Prop := Claim7.holds Tryz.pinned (.plain (OpenSpec.ofChange tablibStackSpec)) tablibStackCard

/-- THE TIED CARD OF 'trestlelaw15.TablibCopies'. -/
def tablibCopiesCard : Claim7 := { stood := { row := tablibCopiesRow, standIns := [], harness := (true, "4be5888e3973fe20e5e77f8a52dc87e7d49201fc14c7df0ba4477a5e7515e4d1"), looks := true }, kinds := [], alts := [], laidByText := true, laidKinds := [.data, .data, .data], laidTests := true, laidLooks := .later }
def TablibCopiesCardSaid : Prop := Claim7.holds Tryz.pinned (.plain (OpenSpec.ofChange tablibCopiesSpec)) tablibCopiesCard

/-- THE SECOND FORM's CARD OF 'trestlelaw15.TablibRows'. -/
def tablibRowsUptoCard : Claim7 := { stood := { row := tablibRowsUptoRow, standIns := [], harness := (true, "4be5888e3973fe20e5e77f8a52dc87e7d49201fc14c7df0ba4477a5e7515e4d1"), looks := true }, kinds := [], alts := [], laidByText := true, laidKinds := [.data, .data, .data], laidTests := true, laidLooks := .later }
def TablibRowsUptoCardSaid : Prop := Claim7.holds Tryz.pinned (.plain (OpenSpec.upto tablibRowsSpec)) tablibRowsUptoCard

/-- THE SECOND FORM's CARD OF 'trestlelaw15.TablibTexts'. -/
def tablibTextsUptoCard : Claim7 := { stood := { row := tablibTextsUptoRow, standIns := [], harness := (true, "4be5888e3973fe20e5e77f8a52dc87e7d49201fc14c7df0ba4477a5e7515e4d1"), looks := true }, kinds := [], alts := [], laidByText := true, laidKinds := [.data, .data, .data], laidTests := true, laidLooks := .later }
def TablibTextsUptoCardSaid : Prop := Claim7.holds Tryz.pinned (.plain (OpenSpec.upto tablibTextsSpec)) tablibTextsUptoCard

/-- THE SECOND FORM's CARD OF 'trestlelaw15.TablibMoves'. -/
def tablibMovesUptoCard : Claim7 := { stood := { row := tablibMovesUptoRow, standIns := [], harness := (true, "4be5888e3973fe20e5e77f8a52dc87e7d49201fc14c7df0ba4477a5e7515e4d1"), looks := true }, kinds := [], alts := [], laidByText := true, laidKinds := [.data, .data, .data], laidTests := true, laidLooks := .later }
def TablibMovesUptoCardSaid : Prop := Claim7.holds Tryz.pinned (.plain (OpenSpec.upto tablibMovesSpec)) tablibMovesUptoCard

/-- THE SECOND FORM's CARD OF 'trestlelaw15.TablibFuel'. -/
def tablibFuelUptoCard : Claim7 := { stood := { row := tablibFuelUptoRow, standIns := [], harness := (true, "4be5888e3973fe20e5e77f8a52dc87e7d49201fc14c7df0ba4477a5e7515e4d1"), looks := true }, kinds := [], alts := [], laidByText := true, laidKinds := [.data, .data, .data], laidTests := true, laidLooks := .later }
def TablibFuelUptoCardSaid : Prop := Claim7.holds Tryz.pinned (.plain (OpenSpec.upto tablibFuelSpec)) tablibFuelUptoCard

/-- THE SECOND FORM's CARD OF 'trestlelaw15.TablibStack'. -/
def tablibStackUptoCard : Claim7 := { stood := { row := tablibStackUptoRow, standIns := [], harness := (true, "4be5888e3973fe20e5e77f8a52dc87e7d49201fc14c7df0ba4477a5e7515e4d1"), looks := true }, kinds := [], alts := [], laidByText := true, laidKinds := [.data, .data, .data], laidTests := true, laidLooks := .later }
def TablibStackUptoCardSaid : Prop := Claim7.holds Tryz.pinned (.plain (OpenSpec.upto tablibStackSpec)) tablibStackUptoCard

/-- THE SECOND FORM's CARD OF 'trestlelaw15.TablibCopies'. -/
def tablibCopiesUptoCard : Claim7 := { stood := { row := tablibCopiesUptoRow, standIns := [], harness := (true, "4be5888e3973fe20e5e77f8a52dc87e7d49201fc14c7df0ba4477a5e7515e4d1"), looks := true }, kinds := [], alts := [], laidByText := true, laidKinds := [.data, .data, .data], laidTests := true, laidLooks := .later }
def TablibCopiesUptoCardSaid : Prop := Claim7.holds Tryz.pinned (.plain (OpenSpec.upto tablibCopiesSpec)) tablibCopiesUptoCard
end Rows
end Go.Proofs.YtckgoedlgecokaaGreatDoor
