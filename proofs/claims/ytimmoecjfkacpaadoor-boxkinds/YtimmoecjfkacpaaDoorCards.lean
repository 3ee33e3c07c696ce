/-
  DERIVED. GIVEN WITH THE SEED: THE CARDS: each row of YtimmoecjfkacpaaDoorRows.lean that lists a variable, with what it lists TIED to the program's text (the seventh form; the later family's looks); each row that meets fmt, with fmt's text TOLD by the authors' own Lean function (tested against real Go, not proved from fmt's source: count such statements apart). THE CARD IS WHAT COUNTS. Prove the row's statement (the work); the ties are given (YtimmoecjfkacpaaDoorTie.lean); close each card by the builder's one call (the guide's Derived/Test/ToyasCard.lean, 'card_holds'). Laid BY PROGRAM, IN A SANDBOX (cutbox-door.mjs). By AI agents, Wed Nov 11 2026. No macro, syntax, notation, axiom, sorry.
-/
import Derived.Test.YtimmoecjfkacpaaDoorRows
import GoSem.ClaimSeven
namespace Go.Proofs.YtimmoecjfkacpaaDoor
namespace Rows

/-- THE TIED CARD OF 'trestlelaw03.BoxForms'. -/
def boxFormsCard : Claim7 := { stood := { row := boxFormsRow, standIns := [], harness := (true, "f7e1f7cf4e5797b1016119438b8771a56574931cf83f51864e8e83f40e53c622"), looks := true }, kinds := [], alts := [], laidByText := true, laidKinds := [.data, .data, .data], laidTests := true, laidLooks := .later }
def BoxFormsCardSaid : Prop := Claim7.holds Tryd.pinned (.plain (OpenSpec.ofChange boxFormsSpec)) boxFormsCard

/-- THE TIED CARD OF 'trestlelaw03.BoxKinds'. -/
def boxKindsCard : Claim7 := { stood := { row := boxKindsRow, standIns := [], harness := (true, "f7e1f7cf4e5797b1016119438b8771a56574931cf83f51864e8e83f40e53c622"), looks := true }, kinds := [], alts := [], laidByText := true, laidKinds := [.data, .data, .data], laidTests := true, laidLooks := .later }
def BoxKindsCardSaid : Prop := Claim7.holds Tryd.pinned (.plain (OpenSpec.ofChange boxKindsSpec)) boxKindsCard

/-- THE TIED CARD OF 'trestlelaw03.BoxPairs'. -/
def boxPairsCard : Claim7 := { stood := { row := boxPairsRow, standIns := [], harness := (true, "f7e1f7cf4e5797b1016119438b8771a56574931cf83f51864e8e83f40e53c622"), looks := true }, kinds := [], alts := [], laidByText := true, laidKinds := [.data, .data, .data], laidTests := true, laidLooks := .later }
def BoxPairsCardSaid : Prop := Claim7.holds Tryd.pinned (.plain (OpenSpec.ofChange boxPairsSpec)) boxPairsCard

/-- THE TIED CARD OF 'trestlelaw03.BoxOrders'. -/
def boxOrdersCard : Claim7 := { stood := { row := boxOrdersRow, standIns := [], harness := (true, "f7e1f7cf4e5797b1016119438b8771a56574931cf83f51864e8e83f40e53c622"), looks := true }, kinds := [], alts := [], laidByText := true, laidKinds := [.data, .data, .data], laidTests := true, laidLooks := .later }
def BoxOrdersCardSaid : Prop := Claim7.holds Tryd.pinned (.plain (OpenSpec.ofChange boxOrdersSpec)) boxOrdersCard

/-- THE TIED CARD OF 'trestlelaw03.BoxJoins'. -/
def boxJoinsCard : Claim7 := { stood := { row := boxJoinsRow, standIns := [], harness := (true, "f7e1f7cf4e5797b1016119438b8771a56574931cf83f51864e8e83f40e53c622"), looks := true }, kinds := [], alts := [], laidByText := true, laidKinds := [.data, .data, .data], laidTests := true, laidLooks := .later }
def BoxJoinsCardSaid : Prop := Claim7.holds Tryd.pinned (.plain (OpenSpec.ofChange boxJoinsSpec)) boxJoinsCard

/-- THE TIED CARD OF 'trestlelaw03.BoxOne'. -/
def boxOneCard : Claim7 := { stood := { row := boxOneRow, standIns := [], harness := (true, "f7e1f7cf4e5797b1016119438b8771a56574931cf83f51864e8e83f40e53c622"), looks := true }, kinds := [], alts := [], laidByText := true, laidKinds := [.data, .data, .data], laidTests := true, laidLooks := .later }
def BoxOneCardSaid : Prop := Claim7.holds Tryd.pinned (.plain (OpenSpec.ofChange boxOneSpec)) boxOneCard

/-- THE SECOND FORM's CARD OF 'trestlelaw03.BoxForms'. -/
def boxFormsUptoCard : Claim7 := { stood := { row := boxFormsUptoRow, standIns := [], harness := (true, "f7e1f7cf4e5797b1016119438b8771a56574931cf83f51864e8e83f40e53c622"), looks := true }, kinds := [], alts := [], laidByText := true, laidKinds := [.data, .data, .data], laidTests := true, laidLooks := .later }
def BoxFormsUptoCardSaid : Prop := Claim7.holds Tryd.pinned (.plain (OpenSpec.upto boxFormsSpec)) boxFormsUptoCard

/-- THE SECOND FORM's CARD OF 'trestlelaw03.BoxKinds'. -/
def boxKindsUptoCard : Claim7 := { stood := { row := boxKindsUptoRow, standIns := [], harness := (true, "f7e1f7cf4e5797b1016119438b8771a56574931cf83f51864e8e83f40e53c622"), looks := true }, kinds := [], alts := [], laidByText := true, laidKinds := [.data, .data, .data], laidTests := true, laidLooks := .later }
def BoxKindsUptoCardSaid : Prop := Claim7.holds Tryd.pinned (.plain (OpenSpec.upto boxKindsSpec)) boxKindsUptoCard

/-- THE SECOND FORM's CARD OF 'trestlelaw03.BoxPairs'. -/
def boxPairsUptoCard : Claim7 := { stood := { row := boxPairsUptoRow, standIns := [], harness := (true, "f7e1f7cf4e5797b1016119438b8771a56574931cf83f51864e8e83f40e53c622"), looks := true }, kinds := [], alts := [], laidByText := true, laidKinds := [.data, .data, .data], laidTests := true, laidLooks := .later }
def BoxPairsUptoCardSaid : Prop := Claim7.holds Tryd.pinned (.plain (OpenSpec.upto boxPairsSpec)) boxPairsUptoCard

/-- THE SECOND FORM's CARD OF 'trestlelaw03.BoxOrders'. -/
def boxOrdersUptoCard : Claim7 := { stood := { row := boxOrdersUptoRow, standIns := [], harness := (true, "f7e1f7cf4e5797b1016119438b8771a56574931cf83f51864e8e83f40e53c622"), looks := true }, kinds := [], alts := [], laidByText := true, laidKinds := [.data, .data, .data], laidTests := true, laidLooks := .later }
def BoxOrdersUptoCardSaid : Prop := Claim7.holds Tryd.pinned (.plain (OpenSpec.upto boxOrdersSpec)) boxOrdersUptoCard

/-- THE SECOND FORM's CARD OF 'trestlelaw03.BoxJoins'. -/
def boxJoinsUptoCard : Claim7 := { stood := { row := boxJoinsUptoRow, standIns := [], harness := (true, "f7e1f7cf4e5797b1016119438b8771a56574931cf83f51864e8e83f40e53c622"), looks := true }, kinds := [], alts := [], laidByText := true, laidKinds := [.data, .data, .data], laidTests := true, laidLooks := .later }
def BoxJoinsUptoCardSaid : Prop := Claim7.holds Tryd.pinned (.plain (OpenSpec.upto boxJoinsSpec)) boxJoinsUptoCard

/-- THE SECOND FORM's CARD OF 'trestlelaw03.BoxOne'. -/
def boxOneUptoCard : Claim7 := { stood := { row := boxOneUptoRow, standIns := [], harness := (true, "f7e1f7cf4e5797b1016119438b8771a56574931cf83f51864e8e83f40e53c622"), looks := true }, kinds := [], alts := [], laidByText := true, laidKinds := [.data, .data, .data], laidTests := true, laidLooks := .later }
def BoxOneUptoCardSaid : Prop := Claim7.holds Tryd.pinned (.plain (OpenSpec.upto boxOneSpec)) boxOneUptoCard
end Rows
end Go.Proofs.YtimmoecjfkacpaaDoor
