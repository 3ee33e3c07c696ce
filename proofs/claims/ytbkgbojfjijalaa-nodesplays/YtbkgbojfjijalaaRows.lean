/-
  No cell of these rows narrows 'for every input' (looked for: loops, veiled, ifaces, maps, wideKeys, modest, calm, conditions, laid).
  DERIVED. THE GIVEN ROWS OF THIS SEAT. 6 by the template 'for every input the law returns true; each argument reads behind the call as it read before'; 0 by the template 'total and deterministic' (their statements: YtbkgbojfjijalaaTotals.lean).
  GIVEN WITH THE SEED: the statements are not yours to turn. If you find one false, say at which input.
  Laid BY PROGRAM, IN A SANDBOX (cutbox-rows.mjs): the forced cells as the released guide's own fill.sh prints them over the translation 46ed8c71c000c696… (all of the seat's roots in one cut). By AI agents, Wed Nov 11 2026. No macro, syntax, notation, axiom, sorry.
-/
import Derived.Test.YtbkgbojfjijalaaChecked
import GoSem.Claim
import GoSem.ClaimJoined
import GoSem.ClaimMapViews
import Derived.JoinedTies
import Derived.KernelRfl
namespace Go.Proofs.Ytbkgbojfjijalaa
/- THE CELL 'sum', in the pinned program and in every row, IS THE sha256 OF THE DUMP (.gsa) THAT YtbkgbojfjijalaaProg.lean LOADS. Nothing in Lean hashes anything: it is a label: what it is worth is what the hold of that sum in a sandbox is worth. -/
noncomputable def Try.pinned : Pinned := { name := "ytbkgbojfjijalaa", sum := "46ed8c71c000c69600e601eed37d707bb2a54b59d917b9ee705577a9960d84a9", checked := Try.checked }
namespace Rows
def none {H : Type} : Left H := { results := [], args := [] }

/-- 'trestlelaw07.NodesPlays': WHATEVER THE INPUT: true; the input reads as it did. -/
def nodesPlaysSpec : ChangeSpec := { name := "nodesPlays", fn := fun _ => fun
  | [d1, d2] => { results := [.lit (.bool true)], args := [d1, d2] }
  | _ => none }
def nodesPlaysRow : OpenClaim := { program := "ytbkgbojfjijalaa", sum := "46ed8c71c000c69600e601eed37d707bb2a54b59d917b9ee705577a9960d84a9", func := "trestle/trestlelaw07.NodesPlays", spec := "nodesPlays", apart := false }
def NodesPlaysSaid : Prop := nodesPlaysRow.holds Try.pinned (OpenSpec.ofChange nodesPlaysSpec)

/-- ITS FALSE NEIGHBOUR: 'it returns false'. Refute it at one input. -/
def nodesPlaysWrong : ChangeSpec := { name := "nodesPlays", fn := fun _ => fun
  | [d1, d2] => { results := [.lit (.bool false)], args := [d1, d2] }
  | _ => none }
def NodesPlaysWrongFalsely : Prop := nodesPlaysRow.holds Try.pinned (OpenSpec.ofChange nodesPlaysWrong)

/-- 'trestlelaw07.NodesChains': WHATEVER THE INPUT: true; the input reads as it did. -/
def nodesChainsSpec : ChangeSpec := { name := "nodesChains", fn := fun _ => fun
  | [d1, d2] => { results := [.lit (.bool true)], args := [d1, d2] }
  | _ => none }
def nodesChainsRow : OpenClaim := { program := "ytbkgbojfjijalaa", sum := "46ed8c71c000c69600e601eed37d707bb2a54b59d917b9ee705577a9960d84a9", func := "trestle/trestlelaw07.NodesChains", spec := "nodesChains", apart := false }
def NodesChainsSaid : Prop := nodesChainsRow.holds Try.pinned (OpenSpec.ofChange nodesChainsSpec)

/-- ITS FALSE NEIGHBOUR: 'it returns false'. Refute it at one input. -/
def nodesChainsWrong : ChangeSpec := { name := "nodesChains", fn := fun _ => fun
  | [d1, d2] => { results := [.lit (.bool false)], args := [d1, d2] }
  | _ => none }
def NodesChainsWrongFalsely : Prop := nodesChainsRow.holds Try.pinned (OpenSpec.ofChange nodesChainsWrong)

/-- 'trestlelaw07.NodesMap': WHATEVER THE INPUT: true; the input reads as it did. -/
def nodesMapSpec : ChangeSpec := { name := "nodesMap", fn := fun _ => fun
  | [d1, d2] => { results := [.lit (.bool true)], args := [d1, d2] }
  | _ => none }
def nodesMapRow : OpenClaim := { program := "ytbkgbojfjijalaa", sum := "46ed8c71c000c69600e601eed37d707bb2a54b59d917b9ee705577a9960d84a9", func := "trestle/trestlelaw07.NodesMap", spec := "nodesMap", apart := false }
def NodesMapSaid : Prop := nodesMapRow.holds Try.pinned (OpenSpec.ofChange nodesMapSpec)

/-- ITS FALSE NEIGHBOUR: 'it returns false'. Refute it at one input. -/
def nodesMapWrong : ChangeSpec := { name := "nodesMap", fn := fun _ => fun
  | [d1, d2] => { results := [.lit (.bool false)], args := [d1, d2] }
  | _ => none }
def NodesMapWrongFalsely : Prop := nodesMapRow.holds Try.pinned (OpenSpec.ofChange nodesMapWrong)

/-- 'trestlelaw07.NodesFills': WHATEVER THE INPUT: true; the input reads as it did. -/
def nodesFillsSpec : ChangeSpec := { name := "nodesFills", fn := fun _ => fun
  | [d1, d2, d3] => { results := [.lit (.bool true)], args := [d1, d2, d3] }
  | _ => none }
def nodesFillsRow : OpenClaim := { program := "ytbkgbojfjijalaa", sum := "46ed8c71c000c69600e601eed37d707bb2a54b59d917b9ee705577a9960d84a9", func := "trestle/trestlelaw07.NodesFills", spec := "nodesFills", apart := false }
def NodesFillsSaid : Prop := nodesFillsRow.holds Try.pinned (OpenSpec.ofChange nodesFillsSpec)

/-- ITS FALSE NEIGHBOUR: 'it returns false'. Refute it at one input. -/
def nodesFillsWrong : ChangeSpec := { name := "nodesFills", fn := fun _ => fun
  | [d1, d2, d3] => { results := [.lit (.bool false)], args := [d1, d2, d3] }
  | _ => none }
def NodesFillsWrongFalsely : Prop := nodesFillsRow.holds Try.pinned (OpenSpec.ofChange nodesFillsWrong)

/-- 'trestlelaw07.NodesMemory': WHATEVER THE INPUT: true; the input reads as it did. -/
def nodesMemorySpec : ChangeSpec := { name := "nodesMemory", fn := fun _ => fun
  | [d1, d2] => { results := [.lit (.bool true)], args := [d1, d2] }
  | _ => none }
def nodesMemoryRow : OpenClaim := { program := "ytbkgbojfjijalaa", sum := "46ed8c71c000c69600e601eed37d707bb2a54b59d917b9ee705577a9960d84a9", func := "trestle/trestlelaw07.NodesMemory", spec := "nodesMemory", apart := false }
def NodesMemorySaid : Prop := nodesMemoryRow.holds Try.pinned (OpenSpec.ofChange nodesMemorySpec)

/-- ITS FALSE NEIGHBOUR: 'it returns false'. Refute it at one input. -/
def nodesMemoryWrong : ChangeSpec := { name := "nodesMemory", fn := fun _ => fun
  | [d1, d2] => { results := [.lit (.bool false)], args := [d1, d2] }
  | _ => none }
def NodesMemoryWrongFalsely : Prop := nodesMemoryRow.holds Try.pinned (OpenSpec.ofChange nodesMemoryWrong)

/-- 'trestlelaw07.NodesFree': WHATEVER THE INPUT: true; the input reads as it did. -/
def nodesFreeSpec : ChangeSpec := { name := "nodesFree", fn := fun _ => fun
  | [d1, d2] => { results := [.lit (.bool true)], args := [d1, d2] }
  | _ => none }
def nodesFreeRow : OpenClaim := { program := "ytbkgbojfjijalaa", sum := "46ed8c71c000c69600e601eed37d707bb2a54b59d917b9ee705577a9960d84a9", func := "trestle/trestlelaw07.NodesFree", spec := "nodesFree", apart := false }
def NodesFreeSaid : Prop := nodesFreeRow.holds Try.pinned (OpenSpec.ofChange nodesFreeSpec)

/-- ITS FALSE NEIGHBOUR: 'it returns false'. Refute it at one input. -/
def nodesFreeWrong : ChangeSpec := { name := "nodesFree", fn := fun _ => fun
  | [d1, d2] => { results := [.lit (.bool false)], args := [d1, d2] }
  | _ => none }
def NodesFreeWrongFalsely : Prop := nodesFreeRow.holds Try.pinned (OpenSpec.ofChange nodesFreeWrong)

/- THE SECOND FORM. 'bulk': how many values and letters a reading holds, each counted each time it is reached (what is shared counts as often as it is met; a slice's spare places count too). A statement '..UptoSaid' is the law's where the arguments, and the package variables that the reading takes, are together of bulk at most 1048576: NARROWER than '..Said'. Prove '..Said' where nothing that the law and all that it calls make is longer than what came in: it says more and counts as full. Else prove '..UptoSaid'. A law counts once. -/
mutual
def uptoBulk {H : Type} : DataW H → Nat
  | .lit (.string bytes) => bytes.length + 1
  | .lit _ => 1
  | .nil => 1
  | .ptr d => uptoBulk d + 1
  | .slice elems spare => uptoBulkAll elems + uptoBulkAll spare + 1
  | .agg parts => uptoBulkAll parts + 1
  | .iface _ d => uptoBulk d + 1
  | .map entries => uptoBulkEntries entries + 1
  | .held _ => 1
def uptoBulkAll {H : Type} : List (DataW H) → Nat
  | [] => 0
  | d :: r => uptoBulk d + uptoBulkAll r
def uptoBulkEntries {H : Type} : List (Lit × DataW H) → Nat
  | [] => 0
  | x :: r => uptoBulkEntry x + uptoBulkEntries r
def uptoBulkEntry {H : Type} : Lit × DataW H → Nat
  | (.string bytes, d) => bytes.length + uptoBulk d + 1
  | (_, d) => uptoBulk d + 1
 end
def uptoSmall : (H : Type) → List (DataW H) → Bool := fun _ ds => decide (uptoBulkAll ds ≤ 1048576)
def OpenSpec.upto (s : _root_.Go.ChangeSpec) : _root_.Go.OpenSpec := { _root_.Go.OpenSpec.ofChange s with cond := some uptoSmall }

/-- 'trestlelaw07.NodesPlays', WHERE WHAT IT READS IS OF BULK AT MOST 1048576: true; the input reads as it did. -/
def nodesPlaysUptoRow : OpenClaim := { program := "ytbkgbojfjijalaa", sum := "46ed8c71c000c69600e601eed37d707bb2a54b59d917b9ee705577a9960d84a9", func := "trestle/trestlelaw07.NodesPlays", spec := "nodesPlays", apart := false, narrowed := true }
def NodesPlaysUptoSaid : Prop := nodesPlaysUptoRow.holds Try.pinned (OpenSpec.upto nodesPlaysSpec)

/-- 'trestlelaw07.NodesChains', WHERE WHAT IT READS IS OF BULK AT MOST 1048576: true; the input reads as it did. -/
def nodesChainsUptoRow : OpenClaim := { program := "ytbkgbojfjijalaa", sum := "46ed8c71c000c69600e601eed37d707bb2a54b59d917b9ee705577a9960d84a9", func := "trestle/trestlelaw07.NodesChains", spec := "nodesChains", apart := false, narrowed := true }
def NodesChainsUptoSaid : Prop := nodesChainsUptoRow.holds Try.pinned (OpenSpec.upto nodesChainsSpec)

/-- 'trestlelaw07.NodesMap', WHERE WHAT IT READS IS OF BULK AT MOST 1048576: true; the input reads as it did. -/
def nodesMapUptoRow : OpenClaim := { program := "ytbkgbojfjijalaa", sum := "46ed8c71c000c69600e601eed37d707bb2a54b59d917b9ee705577a9960d84a9", func := "trestle/trestlelaw07.NodesMap", spec := "nodesMap", apart := false, narrowed := true }
def NodesMapUptoSaid : Prop := nodesMapUptoRow.holds Try.pinned (OpenSpec.upto nodesMapSpec)

/-- 'trestlelaw07.NodesFills', WHERE WHAT IT READS IS OF BULK AT MOST 1048576: true; the input reads as it did. -/
def nodesFillsUptoRow : OpenClaim := { program := "ytbkgbojfjijalaa", sum := "46ed8c71c000c69600e601eed37d707bb2a54b59d917b9ee705577a9960d84a9", func := "trestle/trestlelaw07.NodesFills", spec := "nodesFills", apart := false, narrowed := true }
def NodesFillsUptoSaid : Prop := nodesFillsUptoRow.holds Try.pinned (OpenSpec.upto nodesFillsSpec)

/-- 'trestlelaw07.NodesMemory', WHERE WHAT IT READS IS OF BULK AT MOST 1048576: true; the input reads as it did. -/
def nodesMemoryUptoRow : OpenClaim := { program := "ytbkgbojfjijalaa", sum := "46ed8c71c000c69600e601eed37d707bb2a54b59d917b9ee705577a9960d84a9", func := "trestle/trestlelaw07.NodesMemory", spec := "nodesMemory", apart := false, narrowed := true }
def NodesMemoryUptoSaid : Prop := nodesMemoryUptoRow.holds Try.pinned (OpenSpec.upto nodesMemorySpec)

/-- 'trestlelaw07.NodesFree', WHERE WHAT IT READS IS OF BULK AT MOST 1048576: true; the input reads as it did. -/
def nodesFreeUptoRow : OpenClaim := { program := "ytbkgbojfjijalaa", sum := "46ed8c71c000c69600e601eed37d707bb2a54b59d917b9ee705577a9960d84a9", func := "trestle/trestlelaw07.NodesFree", spec := "nodesFree", apart := false, narrowed := true }
def NodesFreeUptoSaid : Prop := nodesFreeUptoRow.holds Try.pinned (OpenSpec.upto nodesFreeSpec)

end Rows
end Go.Proofs.Ytbkgbojfjijalaa
