/-
  No cell of these rows narrows 'for every input' (looked for: loops, veiled, ifaces, maps, wideKeys, modest, calm, conditions, laid).
  DERIVED. THE GIVEN ROWS OF THIS SEAT. 5 by the template 'for every input the law returns true; each argument reads behind the call as it read before'; 0 by the template 'total and deterministic' (their statements: YthlgeohncpmaaaaTotals.lean).
  GIVEN WITH THE SEED: the statements are not yours to turn. If you find one false, say at which input.
  Laid BY PROGRAM, IN A SANDBOX (cutbox-rows.mjs): the forced cells as the released guide's own fill.sh prints them over the translation 8e72efca36dad34a… (all of the seat's roots in one cut). By AI agents, Wed Nov 11 2026. No macro, syntax, notation, axiom, sorry.
-/
import Derived.Test.YthlgeohncpmaaaaChecked
import GoSem.Claim
import GoSem.ClaimJoined
import GoSem.ClaimMapViews
import Derived.JoinedTies
import Derived.KernelRfl
namespace Go.Proofs.Ythlgeohncpmaaaa
/- THE CELL 'sum', in the pinned program and in every row, IS THE sha256 OF THE DUMP (.gsa) THAT YthlgeohncpmaaaaProg.lean LOADS. Nothing in Lean hashes anything: it is a label: what it is worth is what the hold of that sum in a sandbox is worth. -/
noncomputable def Try.pinned : Pinned := { name := "ythlgeohncpmaaaa", sum := "8e72efca36dad34a3269265be2dfc98e82bdefd91b2dcaed659218ed764c7377", checked := Try.checked }
namespace Rows
def none {H : Type} : Left H := { results := [], args := [] }

/-- 'trestlelaw09.BorderTrue': WHATEVER THE INPUT: true; the input reads as it did. -/
def borderTrueSpec : ChangeSpec := { name := "borderTrue", fn := fun _ => fun
  | [d] => { results := [.lit (.bool true)], args := [d] }
  | _ => none }
def borderTrueRow : OpenClaim := { program := "ythlgeohncpmaaaa", sum := "8e72efca36dad34a3269265be2dfc98e82bdefd91b2dcaed659218ed764c7377", func := "trestle/trestlelaw09.BorderTrue", spec := "borderTrue", unfollowed := true, recurses := true, apart := false }
def BorderTrueSaid : Prop := borderTrueRow.holds Try.pinned (OpenSpec.ofChange borderTrueSpec)

/-- ITS FALSE NEIGHBOUR: 'it returns false'. Refute it at one input. -/
def borderTrueWrong : ChangeSpec := { name := "borderTrue", fn := fun _ => fun
  | [d] => { results := [.lit (.bool false)], args := [d] }
  | _ => none }
def BorderTrueWrongFalsely : Prop := borderTrueRow.holds Try.pinned (OpenSpec.ofChange borderTrueWrong)

/-- 'trestlelaw09.BorderRow': WHATEVER THE INPUT: true; the input reads as it did. -/
def borderRowSpec : ChangeSpec := { name := "borderRow", fn := fun _ => fun
  | [d1, d2, d3] => { results := [.lit (.bool true)], args := [d1, d2, d3] }
  | _ => none }
def borderRowRow : OpenClaim := { program := "ythlgeohncpmaaaa", sum := "8e72efca36dad34a3269265be2dfc98e82bdefd91b2dcaed659218ed764c7377", func := "trestle/trestlelaw09.BorderRow", spec := "borderRow", unfollowed := true, recurses := true, apart := false }
def BorderRowSaid : Prop := borderRowRow.holds Try.pinned (OpenSpec.ofChange borderRowSpec)

/-- ITS FALSE NEIGHBOUR: 'it returns false'. Refute it at one input. -/
def borderRowWrong : ChangeSpec := { name := "borderRow", fn := fun _ => fun
  | [d1, d2, d3] => { results := [.lit (.bool false)], args := [d1, d2, d3] }
  | _ => none }
def BorderRowWrongFalsely : Prop := borderRowRow.holds Try.pinned (OpenSpec.ofChange borderRowWrong)

/-- 'trestlelaw09.BorderTwice': WHATEVER THE INPUT: true; the input reads as it did. -/
def borderTwiceSpec : ChangeSpec := { name := "borderTwice", fn := fun _ => fun
  | [d] => { results := [.lit (.bool true)], args := [d] }
  | _ => none }
def borderTwiceRow : OpenClaim := { program := "ythlgeohncpmaaaa", sum := "8e72efca36dad34a3269265be2dfc98e82bdefd91b2dcaed659218ed764c7377", func := "trestle/trestlelaw09.BorderTwice", spec := "borderTwice", unfollowed := true, recurses := true, apart := false }
def BorderTwiceSaid : Prop := borderTwiceRow.holds Try.pinned (OpenSpec.ofChange borderTwiceSpec)

/-- ITS FALSE NEIGHBOUR: 'it returns false'. Refute it at one input. -/
def borderTwiceWrong : ChangeSpec := { name := "borderTwice", fn := fun _ => fun
  | [d] => { results := [.lit (.bool false)], args := [d] }
  | _ => none }
def BorderTwiceWrongFalsely : Prop := borderTwiceRow.holds Try.pinned (OpenSpec.ofChange borderTwiceWrong)

/-- 'trestlelaw09.BorderReads': WHATEVER THE INPUT: true; the input reads as it did. -/
def borderReadsSpec : ChangeSpec := { name := "borderReads", fn := fun _ => fun
  | [d] => { results := [.lit (.bool true)], args := [d] }
  | _ => none }
def borderReadsRow : OpenClaim := { program := "ythlgeohncpmaaaa", sum := "8e72efca36dad34a3269265be2dfc98e82bdefd91b2dcaed659218ed764c7377", func := "trestle/trestlelaw09.BorderReads", spec := "borderReads", unfollowed := true, recurses := true, apart := false }
def BorderReadsSaid : Prop := borderReadsRow.holds Try.pinned (OpenSpec.ofChange borderReadsSpec)

/-- ITS FALSE NEIGHBOUR: 'it returns false'. Refute it at one input. -/
def borderReadsWrong : ChangeSpec := { name := "borderReads", fn := fun _ => fun
  | [d] => { results := [.lit (.bool false)], args := [d] }
  | _ => none }
def BorderReadsWrongFalsely : Prop := borderReadsRow.holds Try.pinned (OpenSpec.ofChange borderReadsWrong)

/-- 'trestlelaw09.BorderStacks': WHATEVER THE INPUT: true; the input reads as it did. -/
def borderStacksSpec : ChangeSpec := { name := "borderStacks", fn := fun _ => fun
  | [d1, d2] => { results := [.lit (.bool true)], args := [d1, d2] }
  | _ => none }
def borderStacksRow : OpenClaim := { program := "ythlgeohncpmaaaa", sum := "8e72efca36dad34a3269265be2dfc98e82bdefd91b2dcaed659218ed764c7377", func := "trestle/trestlelaw09.BorderStacks", spec := "borderStacks", unfollowed := true, recurses := true, apart := false }
def BorderStacksSaid : Prop := borderStacksRow.holds Try.pinned (OpenSpec.ofChange borderStacksSpec)

/-- ITS FALSE NEIGHBOUR: 'it returns false'. Refute it at one input. -/
def borderStacksWrong : ChangeSpec := { name := "borderStacks", fn := fun _ => fun
  | [d1, d2] => { results := [.lit (.bool false)], args := [d1, d2] }
  | _ => none }
def BorderStacksWrongFalsely : Prop := borderStacksRow.holds Try.pinned (OpenSpec.ofChange borderStacksWrong)

/- THE SECOND FORM. 'bulk': how many values and letters a reading holds, each counted each time it is reached (what is shared counts as often as it is met; a slice's spare places count too). A statement '..UptoSaid' is the law's where the arguments, and the package variables that the reading takes, are together of bulk at most 1048576: NARROWER than '..Said'. Prove '..Said' where nothing that the law and all that it calls make is longer than what came in: it says more and counts as full. Else prove '..UptoSaid'. A law counts once. -/
mutual
def uptoBulk {H : Type} : DataW H → Nat
  | .lit (.string bytes) => bytes.length + 1
  | .lit _ => 1
  | .nil => 1
  | .ptr d => uptoBulk d + 1
  | .slice elems spare => uptoBulkAll elems + uptoBulkAll spare + 1
  | .agg parts => uptoBulkAll parts + 1
  | .iface _ d => uptoBulk d + 1
  | .map entries => uptoBulkEntries entries + 1
  | .held _ => 1
def uptoBulkAll {H : Type} : List (DataW H) → Nat
  | [] => 0
  | d :: r => uptoBulk d + uptoBulkAll r
def uptoBulkEntries {H : Type} : List (Lit × DataW H) → Nat
  | [] => 0
  | x :: r => uptoBulkEntry x + uptoBulkEntries r
def uptoBulkEntry {H : Type} : Lit × DataW H → Nat
  | (.string bytes, d) => bytes.length + uptoBulk d + 1
  | (_, d) => uptoBulk d + 1
 end
def uptoSmall : (H : Type) → List (DataW H) → Bool := fun _ ds => decide (uptoBulkAll ds ≤ 1048576)
def OpenSpec.upto (s : _root_.Go.ChangeSpec) : _root_.Go.OpenSpec := { _root_.Go.OpenSpec.ofChange s with cond := some uptoSmall }

/-- 'trestlelaw09.BorderTrue', WHERE WHAT IT READS IS OF BULK AT MOST 1048576: true; the input reads as it did. -/
def borderTrueUptoRow : OpenClaim := { program := "ythlgeohncpmaaaa", sum := "8e72efca36dad34a3269265be2dfc98e82bdefd91b2dcaed659218ed764c7377", func := "trestle/trestlelaw09.BorderTrue", spec := "borderTrue", unfollowed := true, recurses := true, apart := false, narrowed := true }
def BorderTrueUptoSaid : Prop := borderTrueUptoRow.holds Try.pinned (OpenSpec.upto borderTrueSpec)

/-- 'trestlelaw09.BorderRow', WHERE WHAT IT READS IS OF BULK AT MOST 1048576: true; the input reads as it did. -/
def borderRowUptoRow : OpenClaim := { program := "ythlgeohncpmaaaa", sum := "8e72efca36dad34a3269265be2dfc98e82bdefd91b2dcaed659218ed764c7377", func := "trestle/trestlelaw09.BorderRow", spec := "borderRow", unfollowed := true, recurses := true, apart := false, narrowed := true }
def BorderRowUptoSaid : Prop := borderRowUptoRow.holds Try.pinned (OpenSpec.upto borderRowSpec)

/-- 'trestlelaw09.BorderTwice', WHERE WHAT IT READS IS OF BULK AT MOST 1048576: true; the input reads as it did. -/
def borderTwiceUptoRow : OpenClaim := { program := "ythlgeohncpmaaaa", sum := "8e72efca36dad34a3269265be2dfc98e82bdefd91b2dcaed659218ed764c7377", func := "trestle/trestlelaw09.BorderTwice", spec := "borderTwice", unfollowed := true, recurses := true, apart := false, narrowed := true }
def BorderTwiceUptoSaid : Prop := borderTwiceUptoRow.holds Try.pinned (OpenSpec.upto borderTwiceSpec)

/-- 'trestlelaw09.BorderReads', WHERE WHAT IT READS IS OF BULK AT MOST 1048576: true; the input reads as it did. -/
def borderReadsUptoRow : OpenClaim := { program := "ythlgeohncpmaaaa", sum := "8e72efca36dad34a3269265be2dfc98e82bdefd91b2dcaed659218ed764c7377", func := "trestle/trestlelaw09.BorderReads", spec := "borderReads", unfollowed := true, recurses := true, apart := false, narrowed := true }
def BorderReadsUptoSaid : Prop := borderReadsUptoRow.holds Try.pinned (OpenSpec.upto borderReadsSpec)

/-- 'trestlelaw09.BorderStacks', WHERE WHAT IT READS IS OF BULK AT MOST 1048576: true; the input reads as it did. -/
def borderStacksUptoRow : OpenClaim := { program := "ythlgeohncpmaaaa", sum := "8e72efca36dad34a3269265be2dfc98e82bdefd91b2dcaed659218ed764c7377", func := "trestle/trestlelaw09.BorderStacks", spec := "borderStacks", unfollowed := true, recurses := true, apart := false, narrowed := true }
def BorderStacksUptoSaid : Prop := borderStacksUptoRow.holds Try.pinned (OpenSpec.upto borderStacksSpec)

end Rows
end Go.Proofs.Ythlgeohncpmaaaa
