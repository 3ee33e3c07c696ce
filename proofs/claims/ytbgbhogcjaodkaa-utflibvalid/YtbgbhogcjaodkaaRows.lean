/-
  No cell of these rows narrows 'for every input' (looked for: loops, veiled, ifaces, maps, wideKeys, modest, calm, conditions, laid).
  DERIVED. THE GIVEN ROWS OF THIS SEAT. 6 by the template 'for every input the law returns true; each argument reads behind the call as it read before'; 0 by the template 'total and deterministic' (their statements: YtbgbhogcjaodkaaTotals.lean).
  GIVEN WITH THE SEED: the statements are not yours to turn. If you find one false, say at which input.
  Laid BY PROGRAM, IN A SANDBOX (cutbox-rows.mjs): the forced cells as the released guide's own fill.sh prints them over the translation 37dd870407c6dcf4… (all of the seat's roots in one cut). By AI agents, Wed Nov 11 2026. No macro, syntax, notation, axiom, sorry.
-/
import Derived.Test.YtbgbhogcjaodkaaChecked
import GoSem.Claim
import GoSem.ClaimJoined
import GoSem.ClaimMapViews
import Derived.JoinedTies
import Derived.KernelRfl
namespace Go.Proofs.Ytbgbhogcjaodkaa
/- THE CELL 'sum', in the pinned program and in every row, IS THE sha256 OF THE DUMP (.gsa) THAT YtbgbhogcjaodkaaProg.lean LOADS. Nothing in Lean hashes anything: it is a label: what it is worth is what the hold of that sum in a sandbox is worth. -/
noncomputable def Try.pinned : Pinned := { name := "ytbgbhogcjaodkaa", sum := "37dd870407c6dcf4df8e63e7dec5a8ad37111a24e3812cf404757caa95afbb51", checked := Try.checked }
namespace Rows
def none {H : Type} : Left H := { results := [], args := [] }

/-- 'trestlelaw17.UtflibCounts': WHATEVER THE INPUT: true; the input reads as it did. -/
def utflibCountsSpec : ChangeSpec := { name := "utflibCounts", fn := fun _ => fun
  | [d1, d2, d3] => { results := [.lit (.bool true)], args := [d1, d2, d3] }
  | _ => none }
def utflibCountsRow : OpenClaim := { program := "ytbgbhogcjaodkaa", sum := "37dd870407c6dcf4df8e63e7dec5a8ad37111a24e3812cf404757caa95afbb51", func := "trestle/trestlelaw17.UtflibCounts", spec := "utflibCounts", unfollowed := true, recurses := true, apart := false }
def UtflibCountsSaid : Prop := utflibCountsRow.holds Try.pinned (OpenSpec.ofChange utflibCountsSpec)

/-- ITS FALSE NEIGHBOUR: 'it returns false'. Refute it at one input. -/
def utflibCountsWrong : ChangeSpec := { name := "utflibCounts", fn := fun _ => fun
  | [d1, d2, d3] => { results := [.lit (.bool false)], args := [d1, d2, d3] }
  | _ => none }
def UtflibCountsWrongFalsely : Prop := utflibCountsRow.holds Try.pinned (OpenSpec.ofChange utflibCountsWrong)

/-- 'trestlelaw17.UtflibChars': WHATEVER THE INPUT: true; the input reads as it did. -/
def utflibCharsSpec : ChangeSpec := { name := "utflibChars", fn := fun _ => fun
  | [d] => { results := [.lit (.bool true)], args := [d] }
  | _ => none }
def utflibCharsRow : OpenClaim := { program := "ytbgbhogcjaodkaa", sum := "37dd870407c6dcf4df8e63e7dec5a8ad37111a24e3812cf404757caa95afbb51", func := "trestle/trestlelaw17.UtflibChars", spec := "utflibChars", unfollowed := true, recurses := true, apart := false }
def UtflibCharsSaid : Prop := utflibCharsRow.holds Try.pinned (OpenSpec.ofChange utflibCharsSpec)

/-- ITS FALSE NEIGHBOUR: 'it returns false'. Refute it at one input. -/
def utflibCharsWrong : ChangeSpec := { name := "utflibChars", fn := fun _ => fun
  | [d] => { results := [.lit (.bool false)], args := [d] }
  | _ => none }
def UtflibCharsWrongFalsely : Prop := utflibCharsRow.holds Try.pinned (OpenSpec.ofChange utflibCharsWrong)

/-- 'trestlelaw17.UtflibOffsets': WHATEVER THE INPUT: true; the input reads as it did. -/
def utflibOffsetsSpec : ChangeSpec := { name := "utflibOffsets", fn := fun _ => fun
  | [d1, d2, d3] => { results := [.lit (.bool true)], args := [d1, d2, d3] }
  | _ => none }
def utflibOffsetsRow : OpenClaim := { program := "ytbgbhogcjaodkaa", sum := "37dd870407c6dcf4df8e63e7dec5a8ad37111a24e3812cf404757caa95afbb51", func := "trestle/trestlelaw17.UtflibOffsets", spec := "utflibOffsets", unfollowed := true, recurses := true, apart := false }
def UtflibOffsetsSaid : Prop := utflibOffsetsRow.holds Try.pinned (OpenSpec.ofChange utflibOffsetsSpec)

/-- ITS FALSE NEIGHBOUR: 'it returns false'. Refute it at one input. -/
def utflibOffsetsWrong : ChangeSpec := { name := "utflibOffsets", fn := fun _ => fun
  | [d1, d2, d3] => { results := [.lit (.bool false)], args := [d1, d2, d3] }
  | _ => none }
def UtflibOffsetsWrongFalsely : Prop := utflibOffsetsRow.holds Try.pinned (OpenSpec.ofChange utflibOffsetsWrong)

/-- 'trestlelaw17.UtflibValid': WHATEVER THE INPUT: true; the input reads as it did. -/
def utflibValidSpec : ChangeSpec := { name := "utflibValid", fn := fun _ => fun
  | [d] => { results := [.lit (.bool true)], args := [d] }
  | _ => none }
def utflibValidRow : OpenClaim := { program := "ytbgbhogcjaodkaa", sum := "37dd870407c6dcf4df8e63e7dec5a8ad37111a24e3812cf404757caa95afbb51", func := "trestle/trestlelaw17.UtflibValid", spec := "utflibValid", unfollowed := true, recurses := true, apart := false }
def UtflibValidSaid : Prop := utflibValidRow.holds Try.pinned (OpenSpec.ofChange utflibValidSpec)

/-- ITS FALSE NEIGHBOUR: 'it returns false'. Refute it at one input. -/
def utflibValidWrong : ChangeSpec := { name := "utflibValid", fn := fun _ => fun
  | [d] => { results := [.lit (.bool false)], args := [d] }
  | _ => none }
def UtflibValidWrongFalsely : Prop := utflibValidRow.holds Try.pinned (OpenSpec.ofChange utflibValidWrong)

/-- 'trestlelaw17.UtflibBack': WHATEVER THE INPUT: true; the input reads as it did. -/
def utflibBackSpec : ChangeSpec := { name := "utflibBack", fn := fun _ => fun
  | [d1, d2] => { results := [.lit (.bool true)], args := [d1, d2] }
  | _ => none }
def utflibBackRow : OpenClaim := { program := "ytbgbhogcjaodkaa", sum := "37dd870407c6dcf4df8e63e7dec5a8ad37111a24e3812cf404757caa95afbb51", func := "trestle/trestlelaw17.UtflibBack", spec := "utflibBack", unfollowed := true, recurses := true, apart := false }
def UtflibBackSaid : Prop := utflibBackRow.holds Try.pinned (OpenSpec.ofChange utflibBackSpec)

/-- ITS FALSE NEIGHBOUR: 'it returns false'. Refute it at one input. -/
def utflibBackWrong : ChangeSpec := { name := "utflibBack", fn := fun _ => fun
  | [d1, d2] => { results := [.lit (.bool false)], args := [d1, d2] }
  | _ => none }
def UtflibBackWrongFalsely : Prop := utflibBackRow.holds Try.pinned (OpenSpec.ofChange utflibBackWrong)

/-- 'trestlelaw17.UtflibParts': WHATEVER THE INPUT: true; the input reads as it did. -/
def utflibPartsSpec : ChangeSpec := { name := "utflibParts", fn := fun _ => fun
  | [d1, d2] => { results := [.lit (.bool true)], args := [d1, d2] }
  | _ => none }
def utflibPartsRow : OpenClaim := { program := "ytbgbhogcjaodkaa", sum := "37dd870407c6dcf4df8e63e7dec5a8ad37111a24e3812cf404757caa95afbb51", func := "trestle/trestlelaw17.UtflibParts", spec := "utflibParts", unfollowed := true, recurses := true, apart := false }
def UtflibPartsSaid : Prop := utflibPartsRow.holds Try.pinned (OpenSpec.ofChange utflibPartsSpec)

/-- ITS FALSE NEIGHBOUR: 'it returns false'. Refute it at one input. -/
def utflibPartsWrong : ChangeSpec := { name := "utflibParts", fn := fun _ => fun
  | [d1, d2] => { results := [.lit (.bool false)], args := [d1, d2] }
  | _ => none }
def UtflibPartsWrongFalsely : Prop := utflibPartsRow.holds Try.pinned (OpenSpec.ofChange utflibPartsWrong)

/- THE SECOND FORM. 'bulk': how many values and letters a reading holds, each counted each time it is reached (what is shared counts as often as it is met; a slice's spare places count too). A statement '..UptoSaid' is the law's where the arguments, and the package variables that the reading takes, are together of bulk at most 1048576: NARROWER than '..Said'. Prove '..Said' where nothing that the law and all that it calls make is longer than what came in: it says more and counts as full. Else prove '..UptoSaid'. A law counts once. -/
mutual
def uptoBulk {H : Type} : DataW H → Nat
  | .lit (.string bytes) => bytes.length + 1
  | .lit _ => 1
  | .nil => 1
  | .ptr d => uptoBulk d + 1
  | .slice elems spare => uptoBulkAll elems + uptoBulkAll spare + 1
  | .agg parts => uptoBulkAll parts + 1
  | .iface _ d => uptoBulk d + 1
  | .map entries => uptoBulkEntries entries + 1
  | .held _ => 1
def uptoBulkAll {H : Type} : List (DataW H) → Nat
  | [] => 0
  | d :: r => uptoBulk d + uptoBulkAll r
def uptoBulkEntries {H : Type} : List (Lit × DataW H) → Nat
  | [] => 0
  | x :: r => uptoBulkEntry x + uptoBulkEntries r
def uptoBulkEntry {H : Type} : Lit × DataW H → Nat
  | (.string bytes, d) => bytes.length + uptoBulk d + 1
  | (_, d) => uptoBulk d + 1
 end
def uptoSmall : (H : Type) → List (DataW H) → Bool := fun _ ds => decide (uptoBulkAll ds ≤ 1048576)
def OpenSpec.upto (s : _root_.Go.ChangeSpec) : _root_.Go.OpenSpec := { _root_.Go.OpenSpec.ofChange s with cond := some uptoSmall }

/-- 'trestlelaw17.UtflibCounts', WHERE WHAT IT READS IS OF BULK AT MOST 1048576: true; the input reads as it did. -/
def utflibCountsUptoRow : OpenClaim := { program := "ytbgbhogcjaodkaa", sum := "37dd870407c6dcf4df8e63e7dec5a8ad37111a24e3812cf404757caa95afbb51", func := "trestle/trestlelaw17.UtflibCounts", spec := "utflibCounts", unfollowed := true, recurses := true, apart := false, narrowed := true }
def UtflibCountsUptoSaid : Prop := utflibCountsUptoRow.holds Try.pinned (OpenSpec.upto utflibCountsSpec)

/-- 'trestlelaw17.UtflibChars', WHERE WHAT IT READS IS OF BULK AT MOST 1048576: true; the input reads as it did. -/
def utflibCharsUptoRow : OpenClaim := { program := "ytbgbhogcjaodkaa", sum := "37dd870407c6dcf4df8e63e7dec5a8ad37111a24e3812cf404757caa95afbb51", func := "trestle/trestlelaw17.UtflibChars", spec := "utflibChars", unfollowed := true, recurses := true, apart := false, narrowed := true }
def UtflibCharsUptoSaid : Prop := utflibCharsUptoRow.holds Try.pinned (OpenSpec.upto utflibCharsSpec)

/-- 'trestlelaw17.UtflibOffsets', WHERE WHAT IT READS IS OF BULK AT MOST 1048576: true; the input reads as it did. -/
def utflibOffsetsUptoRow : OpenClaim := { program := "ytbgbhogcjaodkaa", sum := "37dd870407c6dcf4df8e63e7dec5a8ad37111a24e3812cf404757caa95afbb51", func := "trestle/trestlelaw17.UtflibOffsets", spec := "utflibOffsets", unfollowed := true, recurses := true, apart := false, narrowed := true }
def UtflibOffsetsUptoSaid : Prop := utflibOffsetsUptoRow.holds Try.pinned (OpenSpec.upto utflibOffsetsSpec)

/-- 'trestlelaw17.UtflibValid', WHERE WHAT IT READS IS OF BULK AT MOST 1048576: true; the input reads as it did. -/
def utflibValidUptoRow : OpenClaim := { program := "ytbgbhogcjaodkaa", sum := "37dd870407c6dcf4df8e63e7dec5a8ad37111a24e3812cf404757caa95afbb51", func := "trestle/trestlelaw17.UtflibValid", spec := "utflibValid", unfollowed := true, recurses := true, apart := false, narrowed := true }
def UtflibValidUptoSaid : Prop := utflibValidUptoRow.holds Try.pinned (OpenSpec.upto utflibValidSpec)

/-- 'trestlelaw17.UtflibBack', WHERE WHAT IT READS IS OF BULK AT MOST 1048576: true; the input reads as it did. -/
def utflibBackUptoRow : OpenClaim := { program := "ytbgbhogcjaodkaa", sum := "37dd870407c6dcf4df8e63e7dec5a8ad37111a24e3812cf404757caa95afbb51", func := "trestle/trestlelaw17.UtflibBack", spec := "utflibBack", unfollowed := true, recurses := true, apart := false, narrowed := true }
def UtflibBackUptoSaid : Prop := utflibBackUptoRow.holds Try.pinned (OpenSpec.upto utflibBackSpec)

/-- 'trestlelaw17.UtflibParts', WHERE WHAT IT READS IS OF BULK AT MOST 1048576: true; the input reads as it did. -/
def utflibPartsUptoRow : OpenClaim := { program := "ytbgbhogcjaodkaa", sum := "37dd870407c6dcf4df8e63e7dec5a8ad37111a24e3812cf404757caa95afbb51", func := "trestle/trestlelaw17.UtflibParts", spec := "utflibParts", unfollowed := true, recurses := true, apart := false, narrowed := true }
def UtflibPartsUptoSaid : Prop := utflibPartsUptoRow.holds Try.pinned (OpenSpec.upto utflibPartsSpec)

end Rows
end Go.Proofs.Ytbgbhogcjaodkaa
