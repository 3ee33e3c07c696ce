/-
  No cell of these rows narrows 'for every input' (looked for: loops, veiled, ifaces, maps, wideKeys, modest, calm, conditions, laid).
  DERIVED. THE GIVEN ROWS OF THIS SEAT. 6 by the template 'for every input the law returns true; each argument reads behind the call as it read before'; 0 by the template 'total and deterministic' (their statements: YtmejlldabdjpjaaGreatTotals.lean).
  GIVEN WITH THE SEED: the statements are not yours to turn. If you find one false, say at which input.
  Laid BY PROGRAM, IN A SANDBOX (cutbox-rows.mjs): the forced cells as the released guide's own fill.sh prints them over the translation 3dce34e780b7800a… (all of the seat's roots in one cut). By AI agents, Wed Nov 11 2026. No macro, syntax, notation, axiom, sorry.
-/
import Derived.Test.YtmejlldabdjpjaaGreatChecked
import GoSem.Claim
import GoSem.ClaimJoined
import GoSem.ClaimMapViews
import Derived.JoinedTies
import Derived.KernelRfl
namespace Go.Proofs.YtmejlldabdjpjaaGreat
/- THE CELL 'sum', in the pinned program and in every row, IS THE sha256 OF THE DUMP (.gsa) THAT YtmejlldabdjpjaaGreatProg.lean LOADS. Nothing in Lean hashes anything: it is a label: what it is worth is what the hold of that sum in a sandbox is worth. -/
noncomputable def Tryz.pinned : Pinned := { name := "ytmejlldabdjpjaagreat", sum := "3dce34e780b7800a623c16cf8cb521d1c33aadd1907282cda1beebba762a9d88", checked := Tryz.checked }
namespace Rows
def none {H : Type} : Left H := { results := [], args := [] }

/-- 'trestlelaw13.CheckReports': WHATEVER THE INPUT: true; the input reads as it did. -/
def checkReportsSpec : ChangeSpec := { name := "checkReports", fn := fun _ => fun
  | [d] => { results := [.lit (.bool true)], args := [d] }
  | _ => none }
def checkReportsRow : OpenClaim := { program := "ytmejlldabdjpjaagreat", sum := "3dce34e780b7800a623c16cf8cb521d1c33aadd1907282cda1beebba762a9d88", func := "trestle/trestlelaw13.CheckReports", spec := "checkReports", inPlace := ["internal/bytealg.IndexByteString"], unfollowed := true, recurses := true, apart := false }
def CheckReportsSaid : Prop := checkReportsRow.holds Tryz.pinned (OpenSpec.ofChange checkReportsSpec)

/-- ITS FALSE NEIGHBOUR: 'it returns false'. Refute it at one input. -/
def checkReportsWrong : ChangeSpec := { name := "checkReports", fn := fun _ => fun
  | [d] => { results := [.lit (.bool false)], args := [d] }
  | _ => none }
def CheckReportsWrongFalsely : Prop := checkReportsRow.holds Tryz.pinned (OpenSpec.ofChange checkReportsWrong)

/-- 'trestlelaw13.CheckNames': WHATEVER THE INPUT: true; the input reads as it did. -/
def checkNamesSpec : ChangeSpec := { name := "checkNames", fn := fun _ => fun
  | [d] => { results := [.lit (.bool true)], args := [d] }
  | _ => none }
def checkNamesRow : OpenClaim := { program := "ytmejlldabdjpjaagreat", sum := "3dce34e780b7800a623c16cf8cb521d1c33aadd1907282cda1beebba762a9d88", func := "trestle/trestlelaw13.CheckNames", spec := "checkNames", inPlace := ["internal/bytealg.IndexByteString"], unfollowed := true, recurses := true, apart := false }
def CheckNamesSaid : Prop := checkNamesRow.holds Tryz.pinned (OpenSpec.ofChange checkNamesSpec)

/-- ITS FALSE NEIGHBOUR: 'it returns false'. Refute it at one input. -/
def checkNamesWrong : ChangeSpec := { name := "checkNames", fn := fun _ => fun
  | [d] => { results := [.lit (.bool false)], args := [d] }
  | _ => none }
def CheckNamesWrongFalsely : Prop := checkNamesRow.holds Tryz.pinned (OpenSpec.ofChange checkNamesWrong)

/-- 'trestlelaw13.CheckStages': WHATEVER THE INPUT: true; the input reads as it did. -/
def checkStagesSpec : ChangeSpec := { name := "checkStages", fn := fun _ => fun
  | [d] => { results := [.lit (.bool true)], args := [d] }
  | _ => none }
def checkStagesRow : OpenClaim := { program := "ytmejlldabdjpjaagreat", sum := "3dce34e780b7800a623c16cf8cb521d1c33aadd1907282cda1beebba762a9d88", func := "trestle/trestlelaw13.CheckStages", spec := "checkStages", inPlace := ["internal/bytealg.IndexByteString"], unfollowed := true, recurses := true, apart := false }
def CheckStagesSaid : Prop := checkStagesRow.holds Tryz.pinned (OpenSpec.ofChange checkStagesSpec)

/-- ITS FALSE NEIGHBOUR: 'it returns false'. Refute it at one input. -/
def checkStagesWrong : ChangeSpec := { name := "checkStages", fn := fun _ => fun
  | [d] => { results := [.lit (.bool false)], args := [d] }
  | _ => none }
def CheckStagesWrongFalsely : Prop := checkStagesRow.holds Tryz.pinned (OpenSpec.ofChange checkStagesWrong)

/-- 'trestlelaw13.CheckRenames': WHATEVER THE INPUT: true; the input reads as it did. -/
def checkRenamesSpec : ChangeSpec := { name := "checkRenames", fn := fun _ => fun
  | [d] => { results := [.lit (.bool true)], args := [d] }
  | _ => none }
def checkRenamesRow : OpenClaim := { program := "ytmejlldabdjpjaagreat", sum := "3dce34e780b7800a623c16cf8cb521d1c33aadd1907282cda1beebba762a9d88", func := "trestle/trestlelaw13.CheckRenames", spec := "checkRenames", inPlace := ["internal/bytealg.IndexByteString"], unfollowed := true, recurses := true, apart := false }
def CheckRenamesSaid : Prop := checkRenamesRow.holds Tryz.pinned (OpenSpec.ofChange checkRenamesSpec)

/-- ITS FALSE NEIGHBOUR: 'it returns false'. Refute it at one input. -/
def checkRenamesWrong : ChangeSpec := { name := "checkRenames", fn := fun _ => fun
  | [d] => { results := [.lit (.bool false)], args := [d] }
  | _ => none }
def CheckRenamesWrongFalsely : Prop := checkRenamesRow.holds Tryz.pinned (OpenSpec.ofChange checkRenamesWrong)

/-- 'trestlelaw13.CheckMemory': WHATEVER THE INPUT: true; the input reads as it did. -/
def checkMemorySpec : ChangeSpec := { name := "checkMemory", fn := fun _ => fun
  | [d] => { results := [.lit (.bool true)], args := [d] }
  | _ => none }
def checkMemoryRow : OpenClaim := { program := "ytmejlldabdjpjaagreat", sum := "3dce34e780b7800a623c16cf8cb521d1c33aadd1907282cda1beebba762a9d88", func := "trestle/trestlelaw13.CheckMemory", spec := "checkMemory", inPlace := ["internal/bytealg.IndexByteString"], unfollowed := true, recurses := true, apart := false }
def CheckMemorySaid : Prop := checkMemoryRow.holds Tryz.pinned (OpenSpec.ofChange checkMemorySpec)

/-- ITS FALSE NEIGHBOUR: 'it returns false'. Refute it at one input. -/
def checkMemoryWrong : ChangeSpec := { name := "checkMemory", fn := fun _ => fun
  | [d] => { results := [.lit (.bool false)], args := [d] }
  | _ => none }
def CheckMemoryWrongFalsely : Prop := checkMemoryRow.holds Tryz.pinned (OpenSpec.ofChange checkMemoryWrong)

/-- 'trestlelaw13.CheckLocals': WHATEVER THE INPUT: true; the input reads as it did. -/
def checkLocalsSpec : ChangeSpec := { name := "checkLocals", fn := fun _ => fun
  | [d1, d2] => { results := [.lit (.bool true)], args := [d1, d2] }
  | _ => none }
def checkLocalsRow : OpenClaim := { program := "ytmejlldabdjpjaagreat", sum := "3dce34e780b7800a623c16cf8cb521d1c33aadd1907282cda1beebba762a9d88", func := "trestle/trestlelaw13.CheckLocals", spec := "checkLocals", inPlace := ["internal/bytealg.IndexByteString"], unfollowed := true, recurses := true, apart := false }
def CheckLocalsSaid : Prop := checkLocalsRow.holds Tryz.pinned (OpenSpec.ofChange checkLocalsSpec)

/-- ITS FALSE NEIGHBOUR: 'it returns false'. Refute it at one input. -/
def checkLocalsWrong : ChangeSpec := { name := "checkLocals", fn := fun _ => fun
  | [d1, d2] => { results := [.lit (.bool false)], args := [d1, d2] }
  | _ => none }
def CheckLocalsWrongFalsely : Prop := checkLocalsRow.holds Tryz.pinned (OpenSpec.ofChange checkLocalsWrong)

/- THE SECOND FORM. 'bulk': how many values and letters a reading holds, each counted each time it is reached (what is shared counts as often as it is met; a slice's spare places count too). A statement '..UptoSaid' is the law's where the arguments, and the package variables that the reading takes, are together of bulk at most 1048576: NARROWER than '..Said'. Prove '..Said' where nothing that the law and all that it calls make is longer than what came in: it says more and counts as full. Else prove '..UptoSaid'. A law counts once. -/
mutual
def uptoBulk {H : Type} : DataW H → Nat
  | .lit (.string bytes) => bytes.length + 1
  | .lit _ => 1
  | .nil => 1
  | .ptr d => uptoBulk d + 1
  | .slice elems spare => uptoBulkAll elems + uptoBulkAll spare + 1
  | .agg parts => uptoBulkAll parts + 1
  | .iface _ d => uptoBulk d + 1
  | .map entries => uptoBulkEntries entries + 1
  | .held _ => 1
def uptoBulkAll {H : Type} : List (DataW H) → Nat
  | [] => 0
  | d :: r => uptoBulk d + uptoBulkAll r
def uptoBulkEntries {H : Type} : List (Lit × DataW H) → Nat
  | [] => 0
  | x :: r => uptoBulkEntry x + uptoBulkEntries r
def uptoBulkEntry {H : Type} : Lit × DataW H → Nat
  | (.string bytes, d) => bytes.length + uptoBulk d + 1
  | (_, d) => uptoBulk d + 1
 end
def uptoSmall : (H : Type) → List (DataW H) → Bool := fun _ ds => decide (uptoBulkAll ds ≤ 1048576)
def OpenSpec.upto (s : _root_.Go.ChangeSpec) : _root_.Go.OpenSpec := { _root_.Go.OpenSpec.ofChange s with cond := some uptoSmall }

/-- 'trestlelaw13.CheckReports', WHERE WHAT IT READS IS OF BULK AT MOST 1048576: true; the input reads as it did. -/
def checkReportsUptoRow : OpenClaim := { program := "ytmejlldabdjpjaagreat", sum := "3dce34e780b7800a623c16cf8cb521d1c33aadd1907282cda1beebba762a9d88", func := "trestle/trestlelaw13.CheckReports", spec := "checkReports", inPlace := ["internal/bytealg.IndexByteString"], unfollowed := true, recurses := true, apart := false, narrowed := true }
def CheckReportsUptoSaid : Prop := checkReportsUptoRow.holds Tryz.pinned (OpenSpec.upto checkReportsSpec)

/-- 'trestlelaw13.CheckNames', WHERE WHAT IT READS IS OF BULK AT MOST 1048576: true; the input reads as it did. -/
def checkNamesUptoRow : OpenClaim := { program := "ytmejlldabdjpjaagreat", sum := "3dce34e780b7800a623c16cf8cb521d1c33aadd1907282cda1beebba762a9d88", func := "trestle/trestlelaw13.CheckNames", spec := "checkNames", inPlace := ["internal/bytealg.IndexByteString"], unfollowed := true, recurses := true, apart := false, narrowed := true }
def CheckNamesUptoSaid : Prop := checkNamesUptoRow.holds Tryz.pinned (OpenSpec.upto checkNamesSpec)

/-- 'trestlelaw13.CheckStages', WHERE WHAT IT READS IS OF BULK AT MOST 1048576: true; the input reads as it did. -/
def checkStagesUptoRow : OpenClaim := { program := "ytmejlldabdjpjaagreat", sum := "3dce34e780b7800a623c16cf8cb521d1c33aadd1907282cda1beebba762a9d88", func := "trestle/trestlelaw13.CheckStages", spec := "checkStages", inPlace := ["internal/bytealg.IndexByteString"], unfollowed := true, recurses := true, apart := false, narrowed := true }
def CheckStagesUptoSaid : Prop := checkStagesUptoRow.holds Tryz.pinned (OpenSpec.upto checkStagesSpec)

/-- 'trestlelaw13.CheckRenames', WHERE WHAT IT READS IS OF BULK AT MOST 1048576: true; the input reads as it did. -/
def checkRenamesUptoRow : OpenClaim := { program := "ytmejlldabdjpjaagreat", sum := "3dce34e780b7800a623c16cf8cb521d1c33aadd1907282cda1beebba762a9d88", func := "trestle/trestlelaw13.CheckRenames", spec := "checkRenames", inPlace := ["internal/bytealg.IndexByteString"], unfollowed := true, recurses := true, apart := false, narrowed := true }
def CheckRenamesUptoSaid : Prop := checkRenamesUptoRow.holds Tryz.pinned (OpenSpec.upto checkRenamesSpec)

/-- 'trestlelaw13.CheckMemory', WHERE WHAT IT READS IS OF BULK AT MOST 1048576: true; the input reads as it did. -/
def checkMemoryUptoRow : OpenClaim := { program := "ytmejlldabdjpjaagreat", sum := "3dce34e780b7800a623c16cf8cb521d1c33aadd1907282cda1beebba762a9d88", func := "trestle/trestlelaw13.CheckMemory", spec := "checkMemory", inPlace := ["internal/bytealg.IndexByteString"], unfollowed := true, recurses := true, apart := false, narrowed := true }
def CheckMemoryUptoSaid : Prop := checkMemoryUptoRow.holds Tryz.pinned (OpenSpec.upto checkMemorySpec)

/-- 'trestlelaw13.CheckLocals', WHERE WHAT IT READS IS OF BULK AT MOST 1048576: true; the input reads as it did. -/
def checkLocalsUptoRow : OpenClaim := { program := "ytmejlldabdjpjaagreat", sum := "3dce34e780b7800a623c16cf8cb521d1c33aadd1907282cda1beebba762a9d88", func := "trestle/trestlelaw13.CheckLocals", spec := "checkLocals", inPlace := ["internal/bytealg.IndexByteString"], unfollowed := true, recurses := true, apart := false, narrowed := true }
def CheckLocalsUptoSaid : Prop := checkLocalsUptoRow.holds Tryz.pinned (OpenSpec.upto checkLocalsSpec)

end Rows
end Go.Proofs.YtmejlldabdjpjaaGreat
