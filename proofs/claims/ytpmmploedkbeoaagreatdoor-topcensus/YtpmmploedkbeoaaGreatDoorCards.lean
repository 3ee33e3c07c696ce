/-
  DERIVED. GIVEN WITH THE SEED: THE CARDS: each row of YtpmmploedkbeoaaGreatDoorRows.lean that lists a variable, with what it lists TIED to the program's text (the seventh form; the later family's looks); each row that meets fmt, with fmt's text TOLD by the authors' own Lean function (tested against real Go, not proved from fmt's source: count such statements apart). THE CARD IS WHAT COUNTS. Prove the row's statement (the work); the ties are given (YtpmmploedkbeoaaGreatDoorTie.lean); close each card by the builder's one call (the guide's Derived/Test/ToyasCard.lean, 'card_holds'). Laid BY PROGRAM, IN A SANDBOX (cutbox-door.mjs). By AI agents, Wed Nov 11 2026. No macro, syntax, notation, axiom, sorry.
-/
import Derived.Test.YtpmmploedkbeoaaGreatDoorRows
import GoSem.ClaimSeven
namespace Go.Proofs.YtpmmploedkbeoaaGreatDoor
namespace Rows

/-- THE TIED CARD OF 'trestletop.TopCensus'. -/
def topCensusCard : Claim7 := { stood := { row := topCensusRow, standIns := [], harness := (true, "9bc69b25cc6248d7eee3537385bb81ed041c051ab7c0ba8a852777e2c4d90708"), looks := true }, kinds := [], alts := [], laidByText := true, laidKinds := [.data, .data, .data], laidTests := true, laidLooks := .later }
def TopCensusCardSaid : Prop := Claim7.holds Tryz.pinned (.plain (OpenSpec.ofChange topCensusSpec)) topCensusCard

/-- THE TIED CARD OF 'trestletop.TopMap'. -/
def topMapCard : Claim7 := { stood := { row := topMapRow, standIns := [], harness := (true, "9bc69b25cc6248d7eee3537385bb81ed041c051ab7c0ba8a852777e2c4d90708"), looks := true }, kinds := [], alts := [], laidByText := true, laidKinds := [.data, .data, .data], laidTests := true, laidLooks := .later }
def TopMapCardSaid : Prop := Claim7.holds Tryz.pinned (.plain (OpenSpec.ofChange topMapSpec)) topMapCard

/-- THE TIED CARD OF 'trestletop.TopReads'. -/
def topReadsCard : Claim7 := { stood := { row := topReadsRow, standIns := [], harness := (true, "9bc69b25cc6248d7eee3537385bb81ed041c051ab7c0ba8a852777e2c4d90708"), looks := true }, kinds := [], alts := [], laidByText := true, laidKinds := [.data, .data, .data], laidTests := true, laidLooks := .later }
def TopReadsCardSaid : Prop := Claim7.holds Tryz.pinned (.plain (OpenSpec.ofChange topReadsSpec)) topReadsCard

/-- THE SECOND FORM's CARD OF 'trestletop.TopCensus'. -/
def topCensusUptoCard : Claim7 := { stood := { row := topCensusUptoRow, standIns := [], harness := (true, "9bc69b25cc6248d7eee3537385bb81ed041c051ab7c0ba8a852777e2c4d90708"), looks := true }, kinds := [], alts := [], laidByText := true, laidKinds := [.data, .data, .data], laidTests := true, laidLooks := .later }
def TopCensusUptoCardSaid : Prop := Claim7.holds Tryz.pinned (.plain (OpenSpec.upto topCensusSpec)) topCensusUptoCard

/-- THE SECOND FORM's CARD OF 'trestletop.TopMap'. -/
def topMapUptoCard : Claim7 := { stood := { row := topMapUptoRow, standIns := [], harness := (true, "9bc69b25cc6248d7eee3537385bb81ed041c051ab7c0ba8a852777e2c4d90708"), looks := true }, kinds := [], alts := [], laidByText := true, laidKinds := [.data, .data, .data], laidTests := true, laidLooks := .later }
def TopMapUptoCardSaid : Prop := Claim7.holds Tryz.pinned (.plain (OpenSpec.upto topMapSpec)) topMapUptoCard

/-- THE SECOND FORM's CARD OF 'trestletop.TopReads'. -/
def topReadsUptoCard : Claim7 := { stood := { row := topReadsUptoRow, standIns := [], harness := (true, "9bc69b25cc6248d7eee3537385bb81ed041c051ab7c0ba8a852777e2c4d90708"), looks := true }, kinds := [], alts := [], laidByText := true, laidKinds := [.data, .data, .data], laidTests := true, laidLooks := .later }
def TopReadsUptoCardSaid : Prop := Claim7.holds Tryz.pinned (.plain (OpenSpec.upto topReadsSpec)) topReadsUptoCard
end Rows
end Go.Proofs.YtpmmploedkbeoaaGreatDoor
