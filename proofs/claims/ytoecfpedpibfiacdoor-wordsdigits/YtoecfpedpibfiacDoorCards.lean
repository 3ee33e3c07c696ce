/-
  DERIVED. GIVEN WITH THE SEED: THE CARDS: each row of YtoecfpedpibfiacDoorRows.lean that lists a variable, with what it lists TIED to the program's text (the seventh form; the later family's looks); each row that meets fmt, with fmt's text TOLD by the authors' own Lean function (tested against real Go, not proved from fmt's source: count such statements apart). THE CARD IS WHAT COUNTS. Prove the row's statement (the work); the ties are given (YtoecfpedpibfiacDoorTie.lean); close each card by the builder's one call (the guide's Derived/Test/ToyasCard.lean, 'card_holds'). Laid BY PROGRAM, IN A SANDBOX (cutbox-door.mjs). By AI agents, Wed Nov 11 2026. No macro, syntax, notation, axiom, sorry.
-/
import Derived.Test.YtoecfpedpibfiacDoorRows
import GoSem.ClaimSeven
namespace Go.Proofs.YtoecfpedpibfiacDoor
namespace Rows

/-- THE TIED CARD OF 'trestlelaw02.WordsDigits'. -/
def wordsDigitsCard : Claim7 := { stood := { row := wordsDigitsRow, standIns := [], harness := (true, "2f0a08ab1ade6d8cf84a7f804728149d9a3e809af4aaf3c1041fb4673f2ee927"), looks := false }, kinds := [], alts := [], laidByText := true, laidKinds := [.data, .data, .data], laidTests := true, laidLooks := .later }
def WordsDigitsCardSaid : Prop := Claim7.holds Tryd.pinned (.plain (OpenSpec.ofChange wordsDigitsSpec)) wordsDigitsCard

/-- THE TIED CARD OF 'trestlelaw02.WordsDoubles'. -/
def wordsDoublesCard : Claim7 := { stood := { row := wordsDoublesRow, standIns := [], harness := (true, "2f0a08ab1ade6d8cf84a7f804728149d9a3e809af4aaf3c1041fb4673f2ee927"), looks := false }, kinds := [], alts := [], laidByText := true, laidKinds := [.data, .data, .data], laidTests := true, laidLooks := .later }
def WordsDoublesCardSaid : Prop := Claim7.holds Tryd.pinned (.plain (OpenSpec.ofChange wordsDoublesSpec)) wordsDoublesCard

/-- THE SECOND FORM's CARD OF 'trestlelaw02.WordsDigits'. -/
def wordsDigitsUptoCard : Claim7 := { stood := { row := wordsDigitsUptoRow, standIns := [], harness := (true, "2f0a08ab1ade6d8cf84a7f804728149d9a3e809af4aaf3c1041fb4673f2ee927"), looks := false }, kinds := [], alts := [], laidByText := true, laidKinds := [.data, .data, .data], laidTests := true, laidLooks := .later }
def WordsDigitsUptoCardSaid : Prop := Claim7.holds Tryd.pinned (.plain (OpenSpec.upto wordsDigitsSpec)) wordsDigitsUptoCard

/-- THE SECOND FORM's CARD OF 'trestlelaw02.WordsDoubles'. -/
def wordsDoublesUptoCard : Claim7 := { stood := { row := wordsDoublesUptoRow, standIns := [], harness := (true, "2f0a08ab1ade6d8cf84a7f804728149d9a3e809af4aaf3c1041fb4673f2ee927"), looks := false }, kinds := [], alts := [], laidByText := true, laidKinds := [.data, .data, .data], laidTests := true, laidLooks := .later }
def WordsDoublesUptoCardSaid : Prop := Claim7.holds Tryd.pinned (.plain (OpenSpec.upto wordsDoublesSpec)) wordsDoublesUptoCard
end Rows
end Go.Proofs.YtoecfpedpibfiacDoor
