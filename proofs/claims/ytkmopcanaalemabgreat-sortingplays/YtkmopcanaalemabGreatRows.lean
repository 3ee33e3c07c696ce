/-
  No cell of these rows narrows 'for every input' (looked for: loops, veiled, ifaces, maps, wideKeys, modest, calm, conditions, laid).
  DERIVED. THE GIVEN ROWS OF THIS SEAT. 5 by the template 'for every input the law returns true; each argument reads behind the call as it read before'; 0 by the template 'total and deterministic' (their statements: YtkmopcanaalemabGreatTotals.lean).
  GIVEN WITH THE SEED: the statements are not yours to turn. If you find one false, say at which input.
  Laid BY PROGRAM, IN A SANDBOX (cutbox-rows.mjs): the forced cells as the released guide's own fill.sh prints them over the translation 270a06d612815387… (all of the seat's roots in one cut). By AI agents, Wed Nov 11 2026. No macro, syntax, notation, axiom, sorry.
-/
import Derived.Test.YtkmopcanaalemabGreatChecked
import GoSem.Claim
import GoSem.ClaimJoined
import GoSem.ClaimMapViews
import Derived.JoinedTies
import Derived.KernelRfl
namespace Go.Proofs.YtkmopcanaalemabGreat
/- THE CELL 'sum', in the pinned program and in every row, IS THE sha256 OF THE DUMP (.gsa) THAT YtkmopcanaalemabGreatProg.lean LOADS. Nothing in Lean hashes anything: it is a label: what it is worth is what the hold of that sum in a sandbox is worth. -/
noncomputable def Tryz.pinned : Pinned := { name := "ytkmopcanaalemabgreat", sum := "270a06d6128153874a0a306b937b894d6bec5f8c74b7998f05db97feffa9f59e", checked := Tryz.checked }
namespace Rows
def none {H : Type} : Left H := { results := [], args := [] }

/-- 'trestlelaw16.SortingPlays': WHATEVER THE INPUT: true; the input reads as it did. -/
def sortingPlaysSpec : ChangeSpec := { name := "sortingPlays", fn := fun _ => fun
  | [d] => { results := [.lit (.bool true)], args := [d] }
  | _ => none }
def sortingPlaysRow : OpenClaim := { program := "ytkmopcanaalemabgreat", sum := "270a06d6128153874a0a306b937b894d6bec5f8c74b7998f05db97feffa9f59e", func := "trestle/trestlelaw16.SortingPlays", spec := "sortingPlays", unfollowed := true, recurses := true, apart := false }
def SortingPlaysSaid : Prop := sortingPlaysRow.holds Tryz.pinned (OpenSpec.ofChange sortingPlaysSpec)

/-- ITS FALSE NEIGHBOUR: 'it returns false'. Refute it at one input. -/
def sortingPlaysWrong : ChangeSpec := { name := "sortingPlays", fn := fun _ => fun
  | [d] => { results := [.lit (.bool false)], args := [d] }
  | _ => none }
def SortingPlaysWrongFalsely : Prop := sortingPlaysRow.holds Tryz.pinned (OpenSpec.ofChange sortingPlaysWrong)

/-- 'trestlelaw16.SortingSorts': WHATEVER THE INPUT: true; the input reads as it did. -/
def sortingSortsSpec : ChangeSpec := { name := "sortingSorts", fn := fun _ => fun
  | [d1, d2] => { results := [.lit (.bool true)], args := [d1, d2] }
  | _ => none }
def sortingSortsRow : OpenClaim := { program := "ytkmopcanaalemabgreat", sum := "270a06d6128153874a0a306b937b894d6bec5f8c74b7998f05db97feffa9f59e", func := "trestle/trestlelaw16.SortingSorts", spec := "sortingSorts", unfollowed := true, recurses := true, apart := false }
def SortingSortsSaid : Prop := sortingSortsRow.holds Tryz.pinned (OpenSpec.ofChange sortingSortsSpec)

/-- ITS FALSE NEIGHBOUR: 'it returns false'. Refute it at one input. -/
def sortingSortsWrong : ChangeSpec := { name := "sortingSorts", fn := fun _ => fun
  | [d1, d2] => { results := [.lit (.bool false)], args := [d1, d2] }
  | _ => none }
def SortingSortsWrongFalsely : Prop := sortingSortsRow.holds Tryz.pinned (OpenSpec.ofChange sortingSortsWrong)

/-- 'trestlelaw16.SortingOrders': WHATEVER THE INPUT: true; the input reads as it did. -/
def sortingOrdersSpec : ChangeSpec := { name := "sortingOrders", fn := fun _ => fun
  | [d1, d2, d3] => { results := [.lit (.bool true)], args := [d1, d2, d3] }
  | _ => none }
def sortingOrdersRow : OpenClaim := { program := "ytkmopcanaalemabgreat", sum := "270a06d6128153874a0a306b937b894d6bec5f8c74b7998f05db97feffa9f59e", func := "trestle/trestlelaw16.SortingOrders", spec := "sortingOrders", unfollowed := true, recurses := true, apart := false }
def SortingOrdersSaid : Prop := sortingOrdersRow.holds Tryz.pinned (OpenSpec.ofChange sortingOrdersSpec)

/-- ITS FALSE NEIGHBOUR: 'it returns false'. Refute it at one input. -/
def sortingOrdersWrong : ChangeSpec := { name := "sortingOrders", fn := fun _ => fun
  | [d1, d2, d3] => { results := [.lit (.bool false)], args := [d1, d2, d3] }
  | _ => none }
def SortingOrdersWrongFalsely : Prop := sortingOrdersRow.holds Tryz.pinned (OpenSpec.ofChange sortingOrdersWrong)

/-- 'trestlelaw16.SortingKeeps': WHATEVER THE INPUT: true; the input reads as it did. -/
def sortingKeepsSpec : ChangeSpec := { name := "sortingKeeps", fn := fun _ => fun
  | [d] => { results := [.lit (.bool true)], args := [d] }
  | _ => none }
def sortingKeepsRow : OpenClaim := { program := "ytkmopcanaalemabgreat", sum := "270a06d6128153874a0a306b937b894d6bec5f8c74b7998f05db97feffa9f59e", func := "trestle/trestlelaw16.SortingKeeps", spec := "sortingKeeps", unfollowed := true, recurses := true, apart := false }
def SortingKeepsSaid : Prop := sortingKeepsRow.holds Tryz.pinned (OpenSpec.ofChange sortingKeepsSpec)

/-- ITS FALSE NEIGHBOUR: 'it returns false'. Refute it at one input. -/
def sortingKeepsWrong : ChangeSpec := { name := "sortingKeeps", fn := fun _ => fun
  | [d] => { results := [.lit (.bool false)], args := [d] }
  | _ => none }
def SortingKeepsWrongFalsely : Prop := sortingKeepsRow.holds Tryz.pinned (OpenSpec.ofChange sortingKeepsWrong)

/-- 'trestlelaw16.SortingSame': WHATEVER THE INPUT: true; the input reads as it did. -/
def sortingSameSpec : ChangeSpec := { name := "sortingSame", fn := fun _ => fun
  | [d1, d2] => { results := [.lit (.bool true)], args := [d1, d2] }
  | _ => none }
def sortingSameRow : OpenClaim := { program := "ytkmopcanaalemabgreat", sum := "270a06d6128153874a0a306b937b894d6bec5f8c74b7998f05db97feffa9f59e", func := "trestle/trestlelaw16.SortingSame", spec := "sortingSame", unfollowed := true, recurses := true, apart := false }
def SortingSameSaid : Prop := sortingSameRow.holds Tryz.pinned (OpenSpec.ofChange sortingSameSpec)

/-- ITS FALSE NEIGHBOUR: 'it returns false'. Refute it at one input. -/
def sortingSameWrong : ChangeSpec := { name := "sortingSame", fn := fun _ => fun
  | [d1, d2] => { results := [.lit (.bool false)], args := [d1, d2] }
  | _ => none }
def SortingSameWrongFalsely : Prop := sortingSameRow.holds Tryz.pinned (OpenSpec.ofChange sortingSameWrong)

/- THE SECOND FORM. 'bulk': how many values and letters a reading holds, each counted each time it is reached (what is shared counts as often as it is met; a slice's spare places count too). A statement '..UptoSaid' is the law's where the arguments, and the package variables that the reading takes, are together of bulk at most 1048576: NARROWER than '..Said'. Prove '..Said' where nothing that the law and all that it calls make is longer than what came in: it says more and counts as full. Else prove '..UptoSaid'. A law counts once. -/
mutual
def uptoBulk {H : Type} : DataW H → Nat
  | .lit (.string bytes) => bytes.length + 1
  | .lit _ => 1
  | .nil => 1
  | .ptr d => uptoBulk d + 1
  | .slice elems spare => uptoBulkAll elems + uptoBulkAll spare + 1
  | .agg parts => uptoBulkAll parts + 1
  | .iface _ d => uptoBulk d + 1
  | .map entries => uptoBulkEntries entries + 1
  | .held _ => 1
def uptoBulkAll {H : Type} : List (DataW H) → Nat
  | [] => 0
  | d :: r => uptoBulk d + uptoBulkAll r
def uptoBulkEntries {H : Type} : List (Lit × DataW H) → Nat
  | [] => 0
  | x :: r => uptoBulkEntry x + uptoBulkEntries r
def uptoBulkEntry {H : Type} : Lit × DataW H → Nat
  | (.string bytes, d) => bytes.length + uptoBulk d + 1
  | (_, d) => uptoBulk d + 1
 end
def uptoSmall : (H : Type) → List (DataW H) → Bool := fun _ ds => decide (uptoBulkAll ds ≤ 1048576)
def OpenSpec.upto (s : _root_.Go.ChangeSpec) : _root_.Go.OpenSpec := { _root_.Go.OpenSpec.ofChange s with cond := some uptoSmall }

/-- 'trestlelaw16.SortingPlays', WHERE WHAT IT READS IS OF BULK AT MOST 1048576: true; the input reads as it did. -/
def sortingPlaysUptoRow : OpenClaim := { program := "ytkmopcanaalemabgreat", sum := "270a06d6128153874a0a306b937b894d6bec5f8c74b7998f05db97feffa9f59e", func := "trestle/trestlelaw16.SortingPlays", spec := "sortingPlays", unfollowed := true, recurses := true, apart := false, narrowed := true }
def SortingPlaysUptoSaid : Prop := sortingPlaysUptoRow.holds Tryz.pinned (OpenSpec.upto sortingPlaysSpec)

/-- 'trestlelaw16.SortingSorts', WHERE WHAT IT READS IS OF BULK AT MOST 1048576: true; the input reads as it did. -/
def sortingSortsUptoRow : OpenClaim := { program := "ytkmopcanaalemabgreat", sum := "270a06d6128153874a0a306b937b894d6bec5f8c74b7998f05db97feffa9f59e", func := "trestle/trestlelaw16.SortingSorts", spec := "sortingSorts", unfollowed := true, recurses := true, apart := false, narrowed := true }
def SortingSortsUptoSaid : Prop := sortingSortsUptoRow.holds Tryz.pinned (OpenSpec.upto sortingSortsSpec)

/-- 'trestlelaw16.SortingOrders', WHERE WHAT IT READS IS OF BULK AT MOST 1048576: true; the input reads as it did. -/
def sortingOrdersUptoRow : OpenClaim := { program := "ytkmopcanaalemabgreat", sum := "270a06d6128153874a0a306b937b894d6bec5f8c74b7998f05db97feffa9f59e", func := "trestle/trestlelaw16.SortingOrders", spec := "sortingOrders", unfollowed := true, recurses := true, apart := false, narrowed := true }
def SortingOrdersUptoSaid : Prop := sortingOrdersUptoRow.holds Tryz.pinned (OpenSpec.upto sortingOrdersSpec)

/-- 'trestlelaw16.SortingKeeps', WHERE WHAT IT READS IS OF BULK AT MOST 1048576: true; the input reads as it did. -/
def sortingKeepsUptoRow : OpenClaim := { program := "ytkmopcanaalemabgreat", sum := "270a06d6128153874a0a306b937b894d6bec5f8c74b7998f05db97feffa9f59e", func := "trestle/trestlelaw16.SortingKeeps", spec := "sortingKeeps", unfollowed := true, recurses := true, apart := false, narrowed := true }
def SortingKeepsUptoSaid : Prop := sortingKeepsUptoRow.holds Tryz.pinned (OpenSpec.upto sortingKeepsSpec)

/-- 'trestlelaw16.SortingSame', WHERE WHAT IT READS IS OF BULK AT MOST 1048576: true; the input reads as it did. -/
def sortingSameUptoRow : OpenClaim := { program := "ytkmopcanaalemabgreat", sum := "270a06d6128153874a0a306b937b894d6bec5f8c74b7998f05db97feffa9f59e", func := "trestle/trestlelaw16.SortingSame", spec := "sortingSame", unfollowed := true, recurses := true, apart := false, narrowed := true }
def SortingSameUptoSaid : Prop := sortingSameUptoRow.holds Tryz.pinned (OpenSpec.upto sortingSameSpec)

end Rows
end Go.Proofs.YtkmopcanaalemabGreat
