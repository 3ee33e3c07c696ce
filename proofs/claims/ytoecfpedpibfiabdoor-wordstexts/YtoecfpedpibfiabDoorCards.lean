/-
  DERIVED. GIVEN WITH THE SEED: THE CARDS: each row of YtoecfpedpibfiabDoorRows.lean that lists a variable, with what it lists TIED to the program's text (the seventh form; the later family's looks); each row that meets fmt, with fmt's text TOLD by the authors' own Lean function (tested against real Go, not proved from fmt's source: count such statements apart). THE CARD IS WHAT COUNTS. Prove the row's statement (the work); the ties are given (YtoecfpedpibfiabDoorTie.lean); close each card by the builder's one call (the guide's Derived/Test/ToyasCard.lean, 'card_holds'). Laid BY PROGRAM, IN A SANDBOX (cutbox-door.mjs). By AI agents, Wed Nov 11 2026. No macro, syntax, notation, axiom, sorry.
-/
import Derived.Test.YtoecfpedpibfiabDoorRows
import GoSem.ClaimSeven
namespace Go.Proofs.YtoecfpedpibfiabDoor
namespace Rows

/-- THE TIED CARD OF 'trestlelaw02.WordsSums'. -/
def wordsSumsCard : Claim7 := { stood := { row := wordsSumsRow, standIns := [], harness := (true, "0b407aebf52fd3a1dd1b947da3bc6a57e055ca6e6a9a3e1125fc44a4c3f5ef2b"), looks := false }, kinds := [], alts := [], laidByText := true, laidKinds := [.data, .data, .data], laidTests := true, laidLooks := .later }
def WordsSumsCardSaid : Prop := Claim7.holds Tryd.pinned (.plain (OpenSpec.ofChange wordsSumsSpec)) wordsSumsCard

/-- THE TIED CARD OF 'trestlelaw02.WordsRing'. -/
def wordsRingCard : Claim7 := { stood := { row := wordsRingRow, standIns := [], harness := (true, "0b407aebf52fd3a1dd1b947da3bc6a57e055ca6e6a9a3e1125fc44a4c3f5ef2b"), looks := false }, kinds := [], alts := [], laidByText := true, laidKinds := [.data, .data, .data], laidTests := true, laidLooks := .later }
def WordsRingCardSaid : Prop := Claim7.holds Tryd.pinned (.plain (OpenSpec.ofChange wordsRingSpec)) wordsRingCard

/-- THE TIED CARD OF 'trestlelaw02.WordsTexts'. -/
def wordsTextsCard : Claim7 := { stood := { row := wordsTextsRow, standIns := [], harness := (true, "0b407aebf52fd3a1dd1b947da3bc6a57e055ca6e6a9a3e1125fc44a4c3f5ef2b"), looks := false }, kinds := [], alts := [], laidByText := true, laidKinds := [.data, .data, .data], laidTests := true, laidLooks := .later }
def WordsTextsCardSaid : Prop := Claim7.holds Tryd.pinned (.plain (OpenSpec.ofChange wordsTextsSpec)) wordsTextsCard

/-- THE TIED CARD OF 'trestlelaw02.WordsPowers'. -/
def wordsPowersCard : Claim7 := { stood := { row := wordsPowersRow, standIns := [], harness := (true, "0b407aebf52fd3a1dd1b947da3bc6a57e055ca6e6a9a3e1125fc44a4c3f5ef2b"), looks := false }, kinds := [], alts := [], laidByText := true, laidKinds := [.data, .data, .data], laidTests := true, laidLooks := .later }
def WordsPowersCardSaid : Prop := Claim7.holds Tryd.pinned (.plain (OpenSpec.ofChange wordsPowersSpec)) wordsPowersCard

/-- THE TIED CARD OF 'trestlelaw02.WordsTurns'. -/
def wordsTurnsCard : Claim7 := { stood := { row := wordsTurnsRow, standIns := [], harness := (true, "0b407aebf52fd3a1dd1b947da3bc6a57e055ca6e6a9a3e1125fc44a4c3f5ef2b"), looks := false }, kinds := [], alts := [], laidByText := true, laidKinds := [.data, .data, .data], laidTests := true, laidLooks := .later }
def WordsTurnsCardSaid : Prop := Claim7.holds Tryd.pinned (.plain (OpenSpec.ofChange wordsTurnsSpec)) wordsTurnsCard

/-- THE SECOND FORM's CARD OF 'trestlelaw02.WordsSums'. -/
def wordsSumsUptoCard : Claim7 := { stood := { row := wordsSumsUptoRow, standIns := [], harness := (true, "0b407aebf52fd3a1dd1b947da3bc6a57e055ca6e6a9a3e1125fc44a4c3f5ef2b"), looks := false }, kinds := [], alts := [], laidByText := true, laidKinds := [.data, .data, .data], laidTests := true, laidLooks := .later }
def WordsSumsUptoCardSaid : Prop := Claim7.holds Tryd.pinned (.plain (OpenSpec.upto wordsSumsSpec)) wordsSumsUptoCard

/-- THE SECOND FORM's CARD OF 'trestlelaw02.WordsRing'. -/
def wordsRingUptoCard : Claim7 := { stood := { row := wordsRingUptoRow, standIns := [], harness := (true, "0b407aebf52fd3a1dd1b947da3bc6a57e055ca6e6a9a3e1125fc44a4c3f5ef2b"), looks := false }, kinds := [], alts := [], laidByText := true, laidKinds := [.data, .data, .data], laidTests := true, laidLooks := .later }
def WordsRingUptoCardSaid : Prop := Claim7.holds Tryd.pinned (.plain (OpenSpec.upto wordsRingSpec)) wordsRingUptoCard

/-- THE SECOND FORM's CARD OF 'trestlelaw02.WordsTexts'. -/
def wordsTextsUptoCard : Claim7 := { stood := { row := wordsTextsUptoRow, standIns := [], harness := (true, "0b407aebf52fd3a1dd1b947da3bc6a57e055ca6e6a9a3e1125fc44a4c3f5ef2b"), looks := false }, kinds := [], alts := [], laidByText := true, laidKinds := [.data, .data, .data], laidTests := true, laidLooks := .later }
def WordsTextsUptoCardSaid : Prop := Claim7.holds Tryd.pinned (.plain (OpenSpec.upto wordsTextsSpec)) wordsTextsUptoCard

/-- THE SECOND FORM's CARD OF 'trestlelaw02.WordsPowers'. -/
def wordsPowersUptoCard : Claim7 := { stood := { row := wordsPowersUptoRow, standIns := [], harness := (true, "0b407aebf52fd3a1dd1b947da3bc6a57e055ca6e6a9a3e1125fc44a4c3f5ef2b"), looks := false }, kinds := [], alts := [], laidByText := true, laidKinds := [.data, .data, .data], laidTests := true, laidLooks := .later }
def WordsPowersUptoCardSaid : Prop := Claim7.holds Tryd.pinned (.plain (OpenSpec.upto wordsPowersSpec)) wordsPowersUptoCard

/-- THE SECOND FORM's CARD OF 'trestlelaw02.WordsTurns'. -/
def wordsTurnsUptoCard : Claim7 := { stood := { row := wordsTurnsUptoRow, standIns := [], harness := (true, "0b407aebf52fd3a1dd1b947da3bc6a57e055ca6e6a9a3e1125fc44a4c3f5ef2b"), looks := false }, kinds := [], alts := [], laidByText := true, laidKinds := [.data, .data, .data], laidTests := true, laidLooks := .later }
def WordsTurnsUptoCardSaid : Prop := Claim7.holds Tryd.pinned (.plain (OpenSpec.upto wordsTurnsSpec)) wordsTurnsUptoCard
end Rows
end Go.Proofs.YtoecfpedpibfiabDoor
