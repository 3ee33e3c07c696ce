/-
  No cell of these rows narrows 'for every input' (looked for: loops, veiled, ifaces, maps, wideKeys, modest, calm, conditions, laid).
  DERIVED. THE GIVEN ROWS OF THIS SEAT. 5 by the template 'for every input the law returns true; each argument reads behind the call as it read before'; 0 by the template 'total and deterministic' (their statements: YtkjbgggghigapaaGreatTotals.lean).
  GIVEN WITH THE SEED: the statements are not yours to turn. If you find one false, say at which input.
  Laid BY PROGRAM, IN A SANDBOX (cutbox-rows.mjs): the forced cells as the released guide's own fill.sh prints them over the translation 3a67be900ce7a777… (all of the seat's roots in one cut). By AI agents, Wed Nov 11 2026. No macro, syntax, notation, axiom, sorry.
-/
import Derived.Test.YtkjbgggghigapaaGreatChecked
import GoSem.Claim
import GoSem.ClaimJoined
import GoSem.ClaimMapViews
import Derived.JoinedTies
import Derived.KernelRfl
namespace Go.Proofs.YtkjbgggghigapaaGreat
/- THE CELL 'sum', in the pinned program and in every row, IS THE sha256 OF THE DUMP (.gsa) THAT YtkjbgggghigapaaGreatProg.lean LOADS. Nothing in Lean hashes anything: it is a label: what it is worth is what the hold of that sum in a sandbox is worth. -/
noncomputable def Tryz.pinned : Pinned := { name := "ytkjbgggghigapaagreat", sum := "3a67be900ce7a7776896cf5a866dfb0ebd462713bf6225da9027de393d4a80ce", checked := Tryz.checked }
namespace Rows
def none {H : Type} : Left H := { results := [], args := [] }

/-- 'trestlelaw14.GenSound': WHATEVER THE INPUT: true; the input reads as it did. -/
def genSoundSpec : ChangeSpec := { name := "genSound", fn := fun _ => fun
  | [d] => { results := [.lit (.bool true)], args := [d] }
  | _ => none }
def genSoundRow : OpenClaim := { program := "ytkjbgggghigapaagreat", sum := "3a67be900ce7a7776896cf5a866dfb0ebd462713bf6225da9027de393d4a80ce", func := "trestle/trestlelaw14.GenSound", spec := "genSound", inPlace := ["internal/bytealg.IndexByteString"], unfollowed := true, recurses := true, apart := false }
def GenSoundSaid : Prop := genSoundRow.holds Tryz.pinned (OpenSpec.ofChange genSoundSpec)

/-- ITS FALSE NEIGHBOUR: 'it returns false'. Refute it at one input. -/
def genSoundWrong : ChangeSpec := { name := "genSound", fn := fun _ => fun
  | [d] => { results := [.lit (.bool false)], args := [d] }
  | _ => none }
def GenSoundWrongFalsely : Prop := genSoundRow.holds Tryz.pinned (OpenSpec.ofChange genSoundWrong)

/-- 'trestlelaw14.GenBalance': WHATEVER THE INPUT: true; the input reads as it did. -/
def genBalanceSpec : ChangeSpec := { name := "genBalance", fn := fun _ => fun
  | [d] => { results := [.lit (.bool true)], args := [d] }
  | _ => none }
def genBalanceRow : OpenClaim := { program := "ytkjbgggghigapaagreat", sum := "3a67be900ce7a7776896cf5a866dfb0ebd462713bf6225da9027de393d4a80ce", func := "trestle/trestlelaw14.GenBalance", spec := "genBalance", inPlace := ["internal/bytealg.IndexByteString"], unfollowed := true, recurses := true, apart := false }
def GenBalanceSaid : Prop := genBalanceRow.holds Tryz.pinned (OpenSpec.ofChange genBalanceSpec)

/-- ITS FALSE NEIGHBOUR: 'it returns false'. Refute it at one input. -/
def genBalanceWrong : ChangeSpec := { name := "genBalance", fn := fun _ => fun
  | [d] => { results := [.lit (.bool false)], args := [d] }
  | _ => none }
def GenBalanceWrongFalsely : Prop := genBalanceRow.holds Tryz.pinned (OpenSpec.ofChange genBalanceWrong)

/-- 'trestlelaw14.GenBlocks': WHATEVER THE INPUT: true; the input reads as it did. -/
def genBlocksSpec : ChangeSpec := { name := "genBlocks", fn := fun _ => fun
  | [d] => { results := [.lit (.bool true)], args := [d] }
  | _ => none }
def genBlocksRow : OpenClaim := { program := "ytkjbgggghigapaagreat", sum := "3a67be900ce7a7776896cf5a866dfb0ebd462713bf6225da9027de393d4a80ce", func := "trestle/trestlelaw14.GenBlocks", spec := "genBlocks", inPlace := ["internal/bytealg.IndexByteString"], unfollowed := true, recurses := true, apart := false }
def GenBlocksSaid : Prop := genBlocksRow.holds Tryz.pinned (OpenSpec.ofChange genBlocksSpec)

/-- ITS FALSE NEIGHBOUR: 'it returns false'. Refute it at one input. -/
def genBlocksWrong : ChangeSpec := { name := "genBlocks", fn := fun _ => fun
  | [d] => { results := [.lit (.bool false)], args := [d] }
  | _ => none }
def GenBlocksWrongFalsely : Prop := genBlocksRow.holds Tryz.pinned (OpenSpec.ofChange genBlocksWrong)

/-- 'trestlelaw14.GenBatches': WHATEVER THE INPUT: true; the input reads as it did. -/
def genBatchesSpec : ChangeSpec := { name := "genBatches", fn := fun _ => fun
  | [d] => { results := [.lit (.bool true)], args := [d] }
  | _ => none }
def genBatchesRow : OpenClaim := { program := "ytkjbgggghigapaagreat", sum := "3a67be900ce7a7776896cf5a866dfb0ebd462713bf6225da9027de393d4a80ce", func := "trestle/trestlelaw14.GenBatches", spec := "genBatches", inPlace := ["internal/bytealg.IndexByteString"], unfollowed := true, recurses := true, apart := false }
def GenBatchesSaid : Prop := genBatchesRow.holds Tryz.pinned (OpenSpec.ofChange genBatchesSpec)

/-- ITS FALSE NEIGHBOUR: 'it returns false'. Refute it at one input. -/
def genBatchesWrong : ChangeSpec := { name := "genBatches", fn := fun _ => fun
  | [d] => { results := [.lit (.bool false)], args := [d] }
  | _ => none }
def GenBatchesWrongFalsely : Prop := genBatchesRow.holds Tryz.pinned (OpenSpec.ofChange genBatchesWrong)

/-- 'trestletop.TopCode': WHATEVER THE INPUT: true; the input reads as it did. -/
def topCodeSpec : ChangeSpec := { name := "topCode", fn := fun _ => fun
  | [d] => { results := [.lit (.bool true)], args := [d] }
  | _ => none }
def topCodeRow : OpenClaim := { program := "ytkjbgggghigapaagreat", sum := "3a67be900ce7a7776896cf5a866dfb0ebd462713bf6225da9027de393d4a80ce", func := "trestle/trestletop.TopCode", spec := "topCode", inPlace := ["internal/bytealg.IndexByteString"], unfollowed := true, recurses := true, apart := false }
def TopCodeSaid : Prop := topCodeRow.holds Tryz.pinned (OpenSpec.ofChange topCodeSpec)

/-- ITS FALSE NEIGHBOUR: 'it returns false'. Refute it at one input. -/
def topCodeWrong : ChangeSpec := { name := "topCode", fn := fun _ => fun
  | [d] => { results := [.lit (.bool false)], args := [d] }
  | _ => none }
def TopCodeWrongFalsely : Prop := topCodeRow.holds Tryz.pinned (OpenSpec.ofChange topCodeWrong)

/- THE SECOND FORM. 'bulk': how many values and letters a reading holds, each counted each time it is reached (what is shared counts as often as it is met; a slice's spare places count too). A statement '..UptoSaid' is the law's where the arguments, and the package variables that the reading takes, are together of bulk at most 1048576: NARROWER than '..Said'. Prove '..Said' where nothing that the law and all that it calls make is longer than what came in: it says more and counts as full. Else prove '..UptoSaid'. A law counts once. -/
mutual
def uptoBulk {H : Type} : DataW H → Nat
  | .lit (.string bytes) => bytes.length + 1
  | .lit _ => 1
  | .nil => 1
  | .ptr d => uptoBulk d + 1
  | .slice elems spare => uptoBulkAll elems + uptoBulkAll spare + 1
  | .agg parts => uptoBulkAll parts + 1
  | .iface _ d => uptoBulk d + 1
  | .map entries => uptoBulkEntries entries + 1
  | .held _ => 1
def uptoBulkAll {H : Type} : List (DataW H) → Nat
  | [] => 0
  | d :: r => uptoBulk d + uptoBulkAll r
def uptoBulkEntries {H : Type} : List (Lit × DataW H) → Nat
  | [] => 0
  | x :: r => uptoBulkEntry x + uptoBulkEntries r
def uptoBulkEntry {H : Type} : Lit × DataW H → Nat
  | (.string bytes, d) => bytes.length + uptoBulk d + 1
  | (_, d) => uptoBulk d + 1
 end
def uptoSmall : (H : Type) → List (DataW H) → Bool := fun _ ds => decide (uptoBulkAll ds ≤ 1048576)
def OpenSpec.upto (s : _root_.Go.ChangeSpec) : _root_.Go.OpenSpec := { _root_.Go.OpenSpec.ofChange s with cond := some uptoSmall }

/-- 'trestlelaw14.GenSound', WHERE WHAT IT READS IS OF BULK AT MOST 1048576: true; the input reads as it did. -/
def genSoundUptoRow : OpenClaim := { program := "ytkjbgggghigapaagreat", sum := "3a67be900ce7a7776896cf5a866dfb0ebd462713bf6225da9027de393d4a80ce", func := "trestle/trestlelaw14.GenSound", spec := "genSound", inPlace := ["internal/bytealg.IndexByteString"], unfollowed := true, recurses := true, apart := false, narrowed := true }
def GenSoundUptoSaid : Prop := genSoundUptoRow.holds Tryz.pinned (OpenSpec.upto genSoundSpec)

/-- 'trestlelaw14.GenBalance', WHERE WHAT IT READS IS OF BULK AT MOST 1048576: true; the input reads as it did. -/
def genBalanceUptoRow : OpenClaim := { program := "ytkjbgggghigapaagreat", sum := "3a67be900ce7a7776896cf5a866dfb0ebd462713bf6225da9027de393d4a80ce", func := "trestle/trestlelaw14.GenBalance", spec := "genBalance", inPlace := ["internal/bytealg.IndexByteString"], unfollowed := true, recurses := true, apart := false, narrowed := true }
def GenBalanceUptoSaid : Prop := genBalanceUptoRow.holds Tryz.pinned (OpenSpec.upto genBalanceSpec)

/-- 'trestlelaw14.GenBlocks', WHERE WHAT IT READS IS OF BULK AT MOST 1048576: true; the input reads as it did. -/
def genBlocksUptoRow : OpenClaim := { program := "ytkjbgggghigapaagreat", sum := "3a67be900ce7a7776896cf5a866dfb0ebd462713bf6225da9027de393d4a80ce", func := "trestle/trestlelaw14.GenBlocks", spec := "genBlocks", inPlace := ["internal/bytealg.IndexByteString"], unfollowed := true, recurses := true, apart := false, narrowed := true }
def GenBlocksUptoSaid : Prop := genBlocksUptoRow.holds Tryz.pinned (OpenSpec.upto genBlocksSpec)

/-- 'trestlelaw14.GenBatches', WHERE WHAT IT READS IS OF BULK AT MOST 1048576: true; the input reads as it did. -/
def genBatchesUptoRow : OpenClaim := { program := "ytkjbgggghigapaagreat", sum := "3a67be900ce7a7776896cf5a866dfb0ebd462713bf6225da9027de393d4a80ce", func := "trestle/trestlelaw14.GenBatches", spec := "genBatches", inPlace := ["internal/bytealg.IndexByteString"], unfollowed := true, recurses := true, apart := false, narrowed := true }
def GenBatchesUptoSaid : Prop := genBatchesUptoRow.holds Tryz.pinned (OpenSpec.upto genBatchesSpec)

/-- 'trestletop.TopCode', WHERE WHAT IT READS IS OF BULK AT MOST 1048576: true; the input reads as it did. -/
def topCodeUptoRow : OpenClaim := { program := "ytkjbgggghigapaagreat", sum := "3a67be900ce7a7776896cf5a866dfb0ebd462713bf6225da9027de393d4a80ce", func := "trestle/trestletop.TopCode", spec := "topCode", inPlace := ["internal/bytealg.IndexByteString"], unfollowed := true, recurses := true, apart := false, narrowed := true }
def TopCodeUptoSaid : Prop := topCodeUptoRow.holds Tryz.pinned (OpenSpec.upto topCodeSpec)

end Rows
end Go.Proofs.YtkjbgggghigapaaGreat
