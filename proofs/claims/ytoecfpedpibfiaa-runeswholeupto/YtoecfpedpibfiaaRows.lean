/-
  No cell of these rows narrows 'for every input' (looked for: loops, veiled, ifaces, maps, wideKeys, modest, calm, conditions, laid).
  DERIVED. THE GIVEN ROWS OF THIS SEAT. 6 by the template 'for every input the law returns true; each argument reads behind the call as it read before'; 0 by the template 'total and deterministic' (their statements: YtoecfpedpibfiaaTotals.lean).
  GIVEN WITH THE SEED: the statements are not yours to turn. If you find one false, say at which input.
  Laid BY PROGRAM, IN A SANDBOX (cutbox-rows.mjs): the forced cells as the released guide's own fill.sh prints them over the translation c986d26a4fecf67e… (all of the seat's roots in one cut). By AI agents, Wed Nov 11 2026. No macro, syntax, notation, axiom, sorry.
-/
import Derived.Test.YtoecfpedpibfiaaChecked
import GoSem.Claim
import GoSem.ClaimJoined
import GoSem.ClaimMapViews
import Derived.JoinedTies
import Derived.KernelRfl
namespace Go.Proofs.Ytoecfpedpibfiaa
/- THE CELL 'sum', in the pinned program and in every row, IS THE sha256 OF THE DUMP (.gsa) THAT YtoecfpedpibfiaaProg.lean LOADS. Nothing in Lean hashes anything: it is a label: what it is worth is what the hold of that sum in a sandbox is worth. -/
noncomputable def Try.pinned : Pinned := { name := "ytoecfpedpibfiaa", sum := "c986d26a4fecf67e7c66ccb9dbfcc94ed9485c737d3e2e8e59b6f16d692e4084", checked := Try.checked }
namespace Rows
def none {H : Type} : Left H := { results := [], args := [] }

/-- 'trestlelaw01.RunesLists': WHATEVER THE INPUT: true; the input reads as it did. -/
def runesListsSpec : ChangeSpec := { name := "runesLists", fn := fun _ => fun
  | [d] => { results := [.lit (.bool true)], args := [d] }
  | _ => none }
def runesListsRow : OpenClaim := { program := "ytoecfpedpibfiaa", sum := "c986d26a4fecf67e7c66ccb9dbfcc94ed9485c737d3e2e8e59b6f16d692e4084", func := "trestle/trestlelaw01.RunesLists", spec := "runesLists", unfollowed := true, recurses := true, apart := false }
def RunesListsSaid : Prop := runesListsRow.holds Try.pinned (OpenSpec.ofChange runesListsSpec)

/-- ITS FALSE NEIGHBOUR: 'it returns false'. Refute it at one input. -/
def runesListsWrong : ChangeSpec := { name := "runesLists", fn := fun _ => fun
  | [d] => { results := [.lit (.bool false)], args := [d] }
  | _ => none }
def RunesListsWrongFalsely : Prop := runesListsRow.holds Try.pinned (OpenSpec.ofChange runesListsWrong)

/-- 'trestlelaw01.RunesPlaces': WHATEVER THE INPUT: true; the input reads as it did. -/
def runesPlacesSpec : ChangeSpec := { name := "runesPlaces", fn := fun _ => fun
  | [d1, d2, d3] => { results := [.lit (.bool true)], args := [d1, d2, d3] }
  | _ => none }
def runesPlacesRow : OpenClaim := { program := "ytoecfpedpibfiaa", sum := "c986d26a4fecf67e7c66ccb9dbfcc94ed9485c737d3e2e8e59b6f16d692e4084", func := "trestle/trestlelaw01.RunesPlaces", spec := "runesPlaces", unfollowed := true, recurses := true, apart := false }
def RunesPlacesSaid : Prop := runesPlacesRow.holds Try.pinned (OpenSpec.ofChange runesPlacesSpec)

/-- ITS FALSE NEIGHBOUR: 'it returns false'. Refute it at one input. -/
def runesPlacesWrong : ChangeSpec := { name := "runesPlaces", fn := fun _ => fun
  | [d1, d2, d3] => { results := [.lit (.bool false)], args := [d1, d2, d3] }
  | _ => none }
def RunesPlacesWrongFalsely : Prop := runesPlacesRow.holds Try.pinned (OpenSpec.ofChange runesPlacesWrong)

/-- 'trestlelaw01.RunesCodes': WHATEVER THE INPUT: true; the input reads as it did. -/
def runesCodesSpec : ChangeSpec := { name := "runesCodes", fn := fun _ => fun
  | [d] => { results := [.lit (.bool true)], args := [d] }
  | _ => none }
def runesCodesRow : OpenClaim := { program := "ytoecfpedpibfiaa", sum := "c986d26a4fecf67e7c66ccb9dbfcc94ed9485c737d3e2e8e59b6f16d692e4084", func := "trestle/trestlelaw01.RunesCodes", spec := "runesCodes", unfollowed := true, recurses := true, apart := false }
def RunesCodesSaid : Prop := runesCodesRow.holds Try.pinned (OpenSpec.ofChange runesCodesSpec)

/-- ITS FALSE NEIGHBOUR: 'it returns false'. Refute it at one input. -/
def runesCodesWrong : ChangeSpec := { name := "runesCodes", fn := fun _ => fun
  | [d] => { results := [.lit (.bool false)], args := [d] }
  | _ => none }
def RunesCodesWrongFalsely : Prop := runesCodesRow.holds Try.pinned (OpenSpec.ofChange runesCodesWrong)

/-- 'trestlelaw01.RunesWhole': WHATEVER THE INPUT: true; the input reads as it did. -/
def runesWholeSpec : ChangeSpec := { name := "runesWhole", fn := fun _ => fun
  | [d1, d2] => { results := [.lit (.bool true)], args := [d1, d2] }
  | _ => none }
def runesWholeRow : OpenClaim := { program := "ytoecfpedpibfiaa", sum := "c986d26a4fecf67e7c66ccb9dbfcc94ed9485c737d3e2e8e59b6f16d692e4084", func := "trestle/trestlelaw01.RunesWhole", spec := "runesWhole", unfollowed := true, recurses := true, apart := false }
def RunesWholeSaid : Prop := runesWholeRow.holds Try.pinned (OpenSpec.ofChange runesWholeSpec)

/-- ITS FALSE NEIGHBOUR: 'it returns false'. Refute it at one input. -/
def runesWholeWrong : ChangeSpec := { name := "runesWhole", fn := fun _ => fun
  | [d1, d2] => { results := [.lit (.bool false)], args := [d1, d2] }
  | _ => none }
def RunesWholeWrongFalsely : Prop := runesWholeRow.holds Try.pinned (OpenSpec.ofChange runesWholeWrong)

/-- 'trestlelaw01.RunesLines': WHATEVER THE INPUT: true; the input reads as it did. -/
def runesLinesSpec : ChangeSpec := { name := "runesLines", fn := fun _ => fun
  | [d] => { results := [.lit (.bool true)], args := [d] }
  | _ => none }
def runesLinesRow : OpenClaim := { program := "ytoecfpedpibfiaa", sum := "c986d26a4fecf67e7c66ccb9dbfcc94ed9485c737d3e2e8e59b6f16d692e4084", func := "trestle/trestlelaw01.RunesLines", spec := "runesLines", unfollowed := true, recurses := true, apart := false }
def RunesLinesSaid : Prop := runesLinesRow.holds Try.pinned (OpenSpec.ofChange runesLinesSpec)

/-- ITS FALSE NEIGHBOUR: 'it returns false'. Refute it at one input. -/
def runesLinesWrong : ChangeSpec := { name := "runesLines", fn := fun _ => fun
  | [d] => { results := [.lit (.bool false)], args := [d] }
  | _ => none }
def RunesLinesWrongFalsely : Prop := runesLinesRow.holds Try.pinned (OpenSpec.ofChange runesLinesWrong)

/-- 'trestlelaw01.RunesOrder': WHATEVER THE INPUT: true; the input reads as it did. -/
def runesOrderSpec : ChangeSpec := { name := "runesOrder", fn := fun _ => fun
  | [d1, d2] => { results := [.lit (.bool true)], args := [d1, d2] }
  | _ => none }
def runesOrderRow : OpenClaim := { program := "ytoecfpedpibfiaa", sum := "c986d26a4fecf67e7c66ccb9dbfcc94ed9485c737d3e2e8e59b6f16d692e4084", func := "trestle/trestlelaw01.RunesOrder", spec := "runesOrder", unfollowed := true, recurses := true, apart := false }
def RunesOrderSaid : Prop := runesOrderRow.holds Try.pinned (OpenSpec.ofChange runesOrderSpec)

/-- ITS FALSE NEIGHBOUR: 'it returns false'. Refute it at one input. -/
def runesOrderWrong : ChangeSpec := { name := "runesOrder", fn := fun _ => fun
  | [d1, d2] => { results := [.lit (.bool false)], args := [d1, d2] }
  | _ => none }
def RunesOrderWrongFalsely : Prop := runesOrderRow.holds Try.pinned (OpenSpec.ofChange runesOrderWrong)

/- THE SECOND FORM. 'bulk': how many values and letters a reading holds, each counted each time it is reached (what is shared counts as often as it is met; a slice's spare places count too). A statement '..UptoSaid' is the law's where the arguments, and the package variables that the reading takes, are together of bulk at most 1048576: NARROWER than '..Said'. Prove '..Said' where nothing that the law and all that it calls make is longer than what came in: it says more and counts as full. Else prove '..UptoSaid'. A law counts once. -/
mutual
def uptoBulk {H : Type} : DataW H → Nat
  | .lit (.string bytes) => bytes.length + 1
  | .lit _ => 1
  | .nil => 1
  | .ptr d => uptoBulk d + 1
  | .slice elems spare => uptoBulkAll elems + uptoBulkAll spare + 1
  | .agg parts => uptoBulkAll parts + 1
  | .iface _ d => uptoBulk d + 1
  | .map entries => uptoBulkEntries entries + 1
  | .held _ => 1
def uptoBulkAll {H : Type} : List (DataW H) → Nat
  | [] => 0
  | d :: r => uptoBulk d + uptoBulkAll r
def uptoBulkEntries {H : Type} : List (Lit × DataW H) → Nat
  | [] => 0
  | x :: r => uptoBulkEntry x + uptoBulkEntries r
def uptoBulkEntry {H : Type} : Lit × DataW H → Nat
  | (.string bytes, d) => bytes.length + uptoBulk d + 1
  | (_, d) => uptoBulk d + 1
 end
def uptoSmall : (H : Type) → List (DataW H) → Bool := fun _ ds => decide (uptoBulkAll ds ≤ 1048576)
def OpenSpec.upto (s : _root_.Go.ChangeSpec) : _root_.Go.OpenSpec := { _root_.Go.OpenSpec.ofChange s with cond := some uptoSmall }

/-- 'trestlelaw01.RunesLists', WHERE WHAT IT READS IS OF BULK AT MOST 1048576: true; the input reads as it did. -/
def runesListsUptoRow : OpenClaim := { program := "ytoecfpedpibfiaa", sum := "c986d26a4fecf67e7c66ccb9dbfcc94ed9485c737d3e2e8e59b6f16d692e4084", func := "trestle/trestlelaw01.RunesLists", spec := "runesLists", unfollowed := true, recurses := true, apart := false, narrowed := true }
def RunesListsUptoSaid : Prop := runesListsUptoRow.holds Try.pinned (OpenSpec.upto runesListsSpec)

/-- 'trestlelaw01.RunesPlaces', WHERE WHAT IT READS IS OF BULK AT MOST 1048576: true; the input reads as it did. -/
def runesPlacesUptoRow : OpenClaim := { program := "ytoecfpedpibfiaa", sum := "c986d26a4fecf67e7c66ccb9dbfcc94ed9485c737d3e2e8e59b6f16d692e4084", func := "trestle/trestlelaw01.RunesPlaces", spec := "runesPlaces", unfollowed := true, recurses := true, apart := false, narrowed := true }
def RunesPlacesUptoSaid : Prop := runesPlacesUptoRow.holds Try.pinned (OpenSpec.upto runesPlacesSpec)

/-- 'trestlelaw01.RunesCodes', WHERE WHAT IT READS IS OF BULK AT MOST 1048576: true; the input reads as it did. -/
def runesCodesUptoRow : OpenClaim := { program := "ytoecfpedpibfiaa", sum := "c986d26a4fecf67e7c66ccb9dbfcc94ed9485c737d3e2e8e59b6f16d692e4084", func := "trestle/trestlelaw01.RunesCodes", spec := "runesCodes", unfollowed := true, recurses := true, apart := false, narrowed := true }
def RunesCodesUptoSaid : Prop := runesCodesUptoRow.holds Try.pinned (OpenSpec.upto runesCodesSpec)

/-- 'trestlelaw01.RunesWhole', WHERE WHAT IT READS IS OF BULK AT MOST 1048576: true; the input reads as it did. -/
def runesWholeUptoRow : OpenClaim := { program := "ytoecfpedpibfiaa", sum := "c986d26a4fecf67e7c66ccb9dbfcc94ed9485c737d3e2e8e59b6f16d692e4084", func := "trestle/trestlelaw01.RunesWhole", spec := "runesWhole", unfollowed := true, recurses := true, apart := false, narrowed := true }
def RunesWholeUptoSaid : Prop := runesWholeUptoRow.holds Try.pinned (OpenSpec.upto runesWholeSpec)

/-- 'trestlelaw01.RunesLines', WHERE WHAT IT READS IS OF BULK AT MOST 1048576: true; the input reads as it did. -/
def runesLinesUptoRow : OpenClaim := { program := "ytoecfpedpibfiaa", sum := "c986d26a4fecf67e7c66ccb9dbfcc94ed9485c737d3e2e8e59b6f16d692e4084", func := "trestle/trestlelaw01.RunesLines", spec := "runesLines", unfollowed := true, recurses := true, apart := false, narrowed := true }
def RunesLinesUptoSaid : Prop := runesLinesUptoRow.holds Try.pinned (OpenSpec.upto runesLinesSpec)

/-- 'trestlelaw01.RunesOrder', WHERE WHAT IT READS IS OF BULK AT MOST 1048576: true; the input reads as it did. -/
def runesOrderUptoRow : OpenClaim := { program := "ytoecfpedpibfiaa", sum := "c986d26a4fecf67e7c66ccb9dbfcc94ed9485c737d3e2e8e59b6f16d692e4084", func := "trestle/trestlelaw01.RunesOrder", spec := "runesOrder", unfollowed := true, recurses := true, apart := false, narrowed := true }
def RunesOrderUptoSaid : Prop := runesOrderUptoRow.holds Try.pinned (OpenSpec.upto runesOrderSpec)

end Rows
end Go.Proofs.Ytoecfpedpibfiaa
