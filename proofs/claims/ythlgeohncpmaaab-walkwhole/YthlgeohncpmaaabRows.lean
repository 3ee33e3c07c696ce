/-
  No cell of these rows narrows 'for every input' (looked for: loops, veiled, ifaces, maps, wideKeys, modest, calm, conditions, laid).
  DERIVED. THE GIVEN ROWS OF THIS SEAT. 5 by the template 'for every input the law returns true; each argument reads behind the call as it read before'; 0 by the template 'total and deterministic' (their statements: YthlgeohncpmaaabTotals.lean).
  GIVEN WITH THE SEED: the statements are not yours to turn. If you find one false, say at which input.
  Laid BY PROGRAM, IN A SANDBOX (cutbox-rows.mjs): the forced cells as the released guide's own fill.sh prints them over the translation 3415e6063bd77346… (all of the seat's roots in one cut). By AI agents, Wed Nov 11 2026. No macro, syntax, notation, axiom, sorry.
-/
import Derived.Test.YthlgeohncpmaaabChecked
import GoSem.Claim
import GoSem.ClaimJoined
import GoSem.ClaimMapViews
import Derived.JoinedTies
import Derived.KernelRfl
namespace Go.Proofs.Ythlgeohncpmaaab
/- THE CELL 'sum', in the pinned program and in every row, IS THE sha256 OF THE DUMP (.gsa) THAT YthlgeohncpmaaabProg.lean LOADS. Nothing in Lean hashes anything: it is a label: what it is worth is what the hold of that sum in a sandbox is worth. -/
noncomputable def Try.pinned : Pinned := { name := "ythlgeohncpmaaab", sum := "3415e6063bd773461488b4495a5aad2a0aa4dd65809fce1414e5925b70f0b3dc", checked := Try.checked }
namespace Rows
def none {H : Type} : Left H := { results := [], args := [] }

/-- 'trestlelaw10.WalkWhole': WHATEVER THE INPUT: true; the input reads as it did. -/
def walkWholeSpec : ChangeSpec := { name := "walkWhole", fn := fun _ => fun
  | [d1, d2] => { results := [.lit (.bool true)], args := [d1, d2] }
  | _ => none }
def walkWholeRow : OpenClaim := { program := "ythlgeohncpmaaab", sum := "3415e6063bd773461488b4495a5aad2a0aa4dd65809fce1414e5925b70f0b3dc", func := "trestle/trestlelaw10.WalkWhole", spec := "walkWhole", unfollowed := true, recurses := true, apart := false }
def WalkWholeSaid : Prop := walkWholeRow.holds Try.pinned (OpenSpec.ofChange walkWholeSpec)

/-- ITS FALSE NEIGHBOUR: 'it returns false'. Refute it at one input. -/
def walkWholeWrong : ChangeSpec := { name := "walkWhole", fn := fun _ => fun
  | [d1, d2] => { results := [.lit (.bool false)], args := [d1, d2] }
  | _ => none }
def WalkWholeWrongFalsely : Prop := walkWholeRow.holds Try.pinned (OpenSpec.ofChange walkWholeWrong)

/-- 'trestlelaw10.WalkKeys': WHATEVER THE INPUT: true; the input reads as it did. -/
def walkKeysSpec : ChangeSpec := { name := "walkKeys", fn := fun _ => fun
  | [d1, d2] => { results := [.lit (.bool true)], args := [d1, d2] }
  | _ => none }
def walkKeysRow : OpenClaim := { program := "ythlgeohncpmaaab", sum := "3415e6063bd773461488b4495a5aad2a0aa4dd65809fce1414e5925b70f0b3dc", func := "trestle/trestlelaw10.WalkKeys", spec := "walkKeys", unfollowed := true, recurses := true, apart := false }
def WalkKeysSaid : Prop := walkKeysRow.holds Try.pinned (OpenSpec.ofChange walkKeysSpec)

/-- ITS FALSE NEIGHBOUR: 'it returns false'. Refute it at one input. -/
def walkKeysWrong : ChangeSpec := { name := "walkKeys", fn := fun _ => fun
  | [d1, d2] => { results := [.lit (.bool false)], args := [d1, d2] }
  | _ => none }
def WalkKeysWrongFalsely : Prop := walkKeysRow.holds Try.pinned (OpenSpec.ofChange walkKeysWrong)

/-- 'trestlelaw10.WalkLists': WHATEVER THE INPUT: true; the input reads as it did. -/
def walkListsSpec : ChangeSpec := { name := "walkLists", fn := fun _ => fun
  | [d] => { results := [.lit (.bool true)], args := [d] }
  | _ => none }
def walkListsRow : OpenClaim := { program := "ythlgeohncpmaaab", sum := "3415e6063bd773461488b4495a5aad2a0aa4dd65809fce1414e5925b70f0b3dc", func := "trestle/trestlelaw10.WalkLists", spec := "walkLists", unfollowed := true, recurses := true, apart := false }
def WalkListsSaid : Prop := walkListsRow.holds Try.pinned (OpenSpec.ofChange walkListsSpec)

/-- ITS FALSE NEIGHBOUR: 'it returns false'. Refute it at one input. -/
def walkListsWrong : ChangeSpec := { name := "walkLists", fn := fun _ => fun
  | [d] => { results := [.lit (.bool false)], args := [d] }
  | _ => none }
def WalkListsWrongFalsely : Prop := walkListsRow.holds Try.pinned (OpenSpec.ofChange walkListsWrong)

/-- 'trestlelaw10.WalkOrder': WHATEVER THE INPUT: true; the input reads as it did. -/
def walkOrderSpec : ChangeSpec := { name := "walkOrder", fn := fun _ => fun
  | [d] => { results := [.lit (.bool true)], args := [d] }
  | _ => none }
def walkOrderRow : OpenClaim := { program := "ythlgeohncpmaaab", sum := "3415e6063bd773461488b4495a5aad2a0aa4dd65809fce1414e5925b70f0b3dc", func := "trestle/trestlelaw10.WalkOrder", spec := "walkOrder", unfollowed := true, recurses := true, apart := false }
def WalkOrderSaid : Prop := walkOrderRow.holds Try.pinned (OpenSpec.ofChange walkOrderSpec)

/-- ITS FALSE NEIGHBOUR: 'it returns false'. Refute it at one input. -/
def walkOrderWrong : ChangeSpec := { name := "walkOrder", fn := fun _ => fun
  | [d] => { results := [.lit (.bool false)], args := [d] }
  | _ => none }
def WalkOrderWrongFalsely : Prop := walkOrderRow.holds Try.pinned (OpenSpec.ofChange walkOrderWrong)

/-- 'trestlelaw10.WalkCounts': WHATEVER THE INPUT: true; the input reads as it did. -/
def walkCountsSpec : ChangeSpec := { name := "walkCounts", fn := fun _ => fun
  | [d1, d2] => { results := [.lit (.bool true)], args := [d1, d2] }
  | _ => none }
def walkCountsRow : OpenClaim := { program := "ythlgeohncpmaaab", sum := "3415e6063bd773461488b4495a5aad2a0aa4dd65809fce1414e5925b70f0b3dc", func := "trestle/trestlelaw10.WalkCounts", spec := "walkCounts", unfollowed := true, recurses := true, apart := false }
def WalkCountsSaid : Prop := walkCountsRow.holds Try.pinned (OpenSpec.ofChange walkCountsSpec)

/-- ITS FALSE NEIGHBOUR: 'it returns false'. Refute it at one input. -/
def walkCountsWrong : ChangeSpec := { name := "walkCounts", fn := fun _ => fun
  | [d1, d2] => { results := [.lit (.bool false)], args := [d1, d2] }
  | _ => none }
def WalkCountsWrongFalsely : Prop := walkCountsRow.holds Try.pinned (OpenSpec.ofChange walkCountsWrong)

/- THE SECOND FORM. 'bulk': how many values and letters a reading holds, each counted each time it is reached (what is shared counts as often as it is met; a slice's spare places count too). A statement '..UptoSaid' is the law's where the arguments, and the package variables that the reading takes, are together of bulk at most 1048576: NARROWER than '..Said'. Prove '..Said' where nothing that the law and all that it calls make is longer than what came in: it says more and counts as full. Else prove '..UptoSaid'. A law counts once. -/
mutual
def uptoBulk {H : Type} : DataW H → Nat
  | .lit (.string bytes) => bytes.length + 1
  | .lit _ => 1
  | .nil => 1
  | .ptr d => uptoBulk d + 1
  | .slice elems spare => uptoBulkAll elems + uptoBulkAll spare + 1
  | .agg parts => uptoBulkAll parts + 1
  | .iface _ d => uptoBulk d + 1
  | .map entries => uptoBulkEntries entries + 1
  | .held _ => 1
def uptoBulkAll {H : Type} : List (DataW H) → Nat
  | [] => 0
  | d :: r => uptoBulk d + uptoBulkAll r
def uptoBulkEntries {H : Type} : List (Lit × DataW H) → Nat
  | [] => 0
  | x :: r => uptoBulkEntry x + uptoBulkEntries r
def uptoBulkEntry {H : Type} : Lit × DataW H → Nat
  | (.string bytes, d) => bytes.length + uptoBulk d + 1
  | (_, d) => uptoBulk d + 1
 end
def uptoSmall : (H : Type) → List (DataW H) → Bool := fun _ ds => decide (uptoBulkAll ds ≤ 1048576)
def OpenSpec.upto (s : _root_.Go.ChangeSpec) : _root_.Go.OpenSpec := { _root_.Go.OpenSpec.ofChange s with cond := some uptoSmall }

/-- 'trestlelaw10.WalkWhole', WHERE WHAT IT READS IS OF BULK AT MOST 1048576: true; the input reads as it did. -/
def walkWholeUptoRow : OpenClaim := { program := "ythlgeohncpmaaab", sum := "3415e6063bd773461488b4495a5aad2a0aa4dd65809fce1414e5925b70f0b3dc", func := "trestle/trestlelaw10.WalkWhole", spec := "walkWhole", unfollowed := true, recurses := true, apart := false, narrowed := true }
def WalkWholeUptoSaid : Prop := walkWholeUptoRow.holds Try.pinned (OpenSpec.upto walkWholeSpec)

/-- 'trestlelaw10.WalkKeys', WHERE WHAT IT READS IS OF BULK AT MOST 1048576: true; the input reads as it did. -/
def walkKeysUptoRow : OpenClaim := { program := "ythlgeohncpmaaab", sum := "3415e6063bd773461488b4495a5aad2a0aa4dd65809fce1414e5925b70f0b3dc", func := "trestle/trestlelaw10.WalkKeys", spec := "walkKeys", unfollowed := true, recurses := true, apart := false, narrowed := true }
def WalkKeysUptoSaid : Prop := walkKeysUptoRow.holds Try.pinned (OpenSpec.upto walkKeysSpec)

/-- 'trestlelaw10.WalkLists', WHERE WHAT IT READS IS OF BULK AT MOST 1048576: true; the input reads as it did. -/
def walkListsUptoRow : OpenClaim := { program := "ythlgeohncpmaaab", sum := "3415e6063bd773461488b4495a5aad2a0aa4dd65809fce1414e5925b70f0b3dc", func := "trestle/trestlelaw10.WalkLists", spec := "walkLists", unfollowed := true, recurses := true, apart := false, narrowed := true }
def WalkListsUptoSaid : Prop := walkListsUptoRow.holds Try.pinned (OpenSpec.upto walkListsSpec)

/-- 'trestlelaw10.WalkOrder', WHERE WHAT IT READS IS OF BULK AT MOST 1048576: true; the input reads as it did. -/
def walkOrderUptoRow : OpenClaim := { program := "ythlgeohncpmaaab", sum := "3415e6063bd773461488b4495a5aad2a0aa4dd65809fce1414e5925b70f0b3dc", func := "trestle/trestlelaw10.WalkOrder", spec := "walkOrder", unfollowed := true, recurses := true, apart := false, narrowed := true }
def WalkOrderUptoSaid : Prop := walkOrderUptoRow.holds Try.pinned (OpenSpec.upto walkOrderSpec)

/-- 'trestlelaw10.WalkCounts', WHERE WHAT IT READS IS OF BULK AT MOST 1048576: true; the input reads as it did. -/
def walkCountsUptoRow : OpenClaim := { program := "ythlgeohncpmaaab", sum := "3415e6063bd773461488b4495a5aad2a0aa4dd65809fce1414e5925b70f0b3dc", func := "trestle/trestlelaw10.WalkCounts", spec := "walkCounts", unfollowed := true, recurses := true, apart := false, narrowed := true }
def WalkCountsUptoSaid : Prop := walkCountsUptoRow.holds Try.pinned (OpenSpec.upto walkCountsSpec)

end Rows
end Go.Proofs.Ythlgeohncpmaaab
