/-
  DERIVED. GIVEN WITH THE SEED: THE CARDS: each row of YtimmoecjfkacpabDoorRows.lean that lists a variable, with what it lists TIED to the program's text (the seventh form; the later family's looks); each row that meets fmt, with fmt's text TOLD by the authors' own Lean function (tested against real Go, not proved from fmt's source: count such statements apart). THE CARD IS WHAT COUNTS. Prove the row's statement (the work); the ties are given (YtimmoecjfkacpabDoorTie.lean); close each card by the builder's one call (the guide's Derived/Test/ToyasCard.lean, 'card_holds'). Laid BY PROGRAM, IN A SANDBOX (cutbox-door.mjs). By AI agents, Wed Nov 11 2026. No macro, syntax, notation, axiom, sorry.
-/
import Derived.Test.YtimmoecjfkacpabDoorRows
import GoSem.ClaimSeven
namespace Go.Proofs.YtimmoecjfkacpabDoor
namespace Rows

/-- THE TIED CARD OF 'trestlelaw03.BoxTexts'. -/
def boxTextsCard : Claim7 := { stood := { row := boxTextsRow, standIns := [], harness := (true, "05a44e5010705c0fb55817a7026468a89735693cdab686ee8a92e4eba18f465a"), looks := true }, kinds := [], alts := [], laidByText := true, laidKinds := [.data, .data, .data], laidTests := true, laidLooks := .later }
def BoxTextsCardSaid : Prop := Claim7.holds Tryd.pinned (.plain (OpenSpec.ofChange boxTextsSpec)) boxTextsCard

/-- THE SECOND FORM's CARD OF 'trestlelaw03.BoxTexts'. -/
def boxTextsUptoCard : Claim7 := { stood := { row := boxTextsUptoRow, standIns := [], harness := (true, "05a44e5010705c0fb55817a7026468a89735693cdab686ee8a92e4eba18f465a"), looks := true }, kinds := [], alts := [], laidByText := true, laidKinds := [.data, .data, .data], laidTests := true, laidLooks := .later }
def BoxTextsUptoCardSaid : Prop := Claim7.holds Tryd.pinned (.plain (OpenSpec.upto boxTextsSpec)) boxTextsUptoCard
end Rows
end Go.Proofs.YtimmoecjfkacpabDoor
