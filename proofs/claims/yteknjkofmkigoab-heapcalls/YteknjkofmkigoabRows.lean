/-
  No cell of these rows narrows 'for every input' (looked for: loops, veiled, ifaces, maps, wideKeys, modest, calm, conditions, laid).
  DERIVED. THE GIVEN ROWS OF THIS SEAT. 6 by the template 'for every input the law returns true; each argument reads behind the call as it read before'; 0 by the template 'total and deterministic' (their statements: YteknjkofmkigoabTotals.lean).
  GIVEN WITH THE SEED: the statements are not yours to turn. If you find one false, say at which input.
  Laid BY PROGRAM, IN A SANDBOX (cutbox-rows.mjs): the forced cells as the released guide's own fill.sh prints them over the translation 0a066d40d01a720a… (all of the seat's roots in one cut). By AI agents, Wed Nov 11 2026. No macro, syntax, notation, axiom, sorry.
-/
import Derived.Test.YteknjkofmkigoabChecked
import GoSem.Claim
import GoSem.ClaimJoined
import GoSem.ClaimMapViews
import Derived.JoinedTies
import Derived.KernelRfl
namespace Go.Proofs.Yteknjkofmkigoab
/- THE CELL 'sum', in the pinned program and in every row, IS THE sha256 OF THE DUMP (.gsa) THAT YteknjkofmkigoabProg.lean LOADS. Nothing in Lean hashes anything: it is a label: what it is worth is what the hold of that sum in a sandbox is worth. -/
noncomputable def Try.pinned : Pinned := { name := "yteknjkofmkigoab", sum := "0a066d40d01a720a85ba77068f726c75b5d2a18e705886de38c946db26b9c46f", checked := Try.checked }
namespace Rows
def none {H : Type} : Left H := { results := [], args := [] }

/-- 'trestlelaw05.CensusAdds': WHATEVER THE INPUT: true; the input reads as it did. -/
def censusAddsSpec : ChangeSpec := { name := "censusAdds", fn := fun _ => fun
  | [d1, d2] => { results := [.lit (.bool true)], args := [d1, d2] }
  | _ => none }
def censusAddsRow : OpenClaim := { program := "yteknjkofmkigoab", sum := "0a066d40d01a720a85ba77068f726c75b5d2a18e705886de38c946db26b9c46f", func := "trestle/trestlelaw05.CensusAdds", spec := "censusAdds", recurses := true, apart := false }
def CensusAddsSaid : Prop := censusAddsRow.holds Try.pinned (OpenSpec.ofChange censusAddsSpec)

/-- ITS FALSE NEIGHBOUR: 'it returns false'. Refute it at one input. -/
def censusAddsWrong : ChangeSpec := { name := "censusAdds", fn := fun _ => fun
  | [d1, d2] => { results := [.lit (.bool false)], args := [d1, d2] }
  | _ => none }
def CensusAddsWrongFalsely : Prop := censusAddsRow.holds Try.pinned (OpenSpec.ofChange censusAddsWrong)

/-- 'trestlelaw06.HeapPlays': WHATEVER THE INPUT: true; the input reads as it did. -/
def heapPlaysSpec : ChangeSpec := { name := "heapPlays", fn := fun _ => fun
  | [d1, d2] => { results := [.lit (.bool true)], args := [d1, d2] }
  | _ => none }
def heapPlaysRow : OpenClaim := { program := "yteknjkofmkigoab", sum := "0a066d40d01a720a85ba77068f726c75b5d2a18e705886de38c946db26b9c46f", func := "trestle/trestlelaw06.HeapPlays", spec := "heapPlays", apart := false }
def HeapPlaysSaid : Prop := heapPlaysRow.holds Try.pinned (OpenSpec.ofChange heapPlaysSpec)

/-- ITS FALSE NEIGHBOUR: 'it returns false'. Refute it at one input. -/
def heapPlaysWrong : ChangeSpec := { name := "heapPlays", fn := fun _ => fun
  | [d1, d2] => { results := [.lit (.bool false)], args := [d1, d2] }
  | _ => none }
def HeapPlaysWrongFalsely : Prop := heapPlaysRow.holds Try.pinned (OpenSpec.ofChange heapPlaysWrong)

/-- 'trestlelaw06.HeapCalls': WHATEVER THE INPUT: true; the input reads as it did. -/
def heapCallsSpec : ChangeSpec := { name := "heapCalls", fn := fun _ => fun
  | [d1, d2] => { results := [.lit (.bool true)], args := [d1, d2] }
  | _ => none }
def heapCallsRow : OpenClaim := { program := "yteknjkofmkigoab", sum := "0a066d40d01a720a85ba77068f726c75b5d2a18e705886de38c946db26b9c46f", func := "trestle/trestlelaw06.HeapCalls", spec := "heapCalls", apart := false }
def HeapCallsSaid : Prop := heapCallsRow.holds Try.pinned (OpenSpec.ofChange heapCallsSpec)

/-- ITS FALSE NEIGHBOUR: 'it returns false'. Refute it at one input. -/
def heapCallsWrong : ChangeSpec := { name := "heapCalls", fn := fun _ => fun
  | [d1, d2] => { results := [.lit (.bool false)], args := [d1, d2] }
  | _ => none }
def HeapCallsWrongFalsely : Prop := heapCallsRow.holds Try.pinned (OpenSpec.ofChange heapCallsWrong)

/-- 'trestlelaw06.HeapLives': WHATEVER THE INPUT: true; the input reads as it did. -/
def heapLivesSpec : ChangeSpec := { name := "heapLives", fn := fun _ => fun
  | [d1, d2, d3] => { results := [.lit (.bool true)], args := [d1, d2, d3] }
  | _ => none }
def heapLivesRow : OpenClaim := { program := "yteknjkofmkigoab", sum := "0a066d40d01a720a85ba77068f726c75b5d2a18e705886de38c946db26b9c46f", func := "trestle/trestlelaw06.HeapLives", spec := "heapLives", apart := false }
def HeapLivesSaid : Prop := heapLivesRow.holds Try.pinned (OpenSpec.ofChange heapLivesSpec)

/-- ITS FALSE NEIGHBOUR: 'it returns false'. Refute it at one input. -/
def heapLivesWrong : ChangeSpec := { name := "heapLives", fn := fun _ => fun
  | [d1, d2, d3] => { results := [.lit (.bool false)], args := [d1, d2, d3] }
  | _ => none }
def HeapLivesWrongFalsely : Prop := heapLivesRow.holds Try.pinned (OpenSpec.ofChange heapLivesWrong)

/-- 'trestlelaw06.HeapMemory': WHATEVER THE INPUT: true; the input reads as it did. -/
def heapMemorySpec : ChangeSpec := { name := "heapMemory", fn := fun _ => fun
  | [d1, d2] => { results := [.lit (.bool true)], args := [d1, d2] }
  | _ => none }
def heapMemoryRow : OpenClaim := { program := "yteknjkofmkigoab", sum := "0a066d40d01a720a85ba77068f726c75b5d2a18e705886de38c946db26b9c46f", func := "trestle/trestlelaw06.HeapMemory", spec := "heapMemory", apart := false }
def HeapMemorySaid : Prop := heapMemoryRow.holds Try.pinned (OpenSpec.ofChange heapMemorySpec)

/-- ITS FALSE NEIGHBOUR: 'it returns false'. Refute it at one input. -/
def heapMemoryWrong : ChangeSpec := { name := "heapMemory", fn := fun _ => fun
  | [d1, d2] => { results := [.lit (.bool false)], args := [d1, d2] }
  | _ => none }
def HeapMemoryWrongFalsely : Prop := heapMemoryRow.holds Try.pinned (OpenSpec.ofChange heapMemoryWrong)

/-- 'trestlelaw06.HeapLast': WHATEVER THE INPUT: true; the input reads as it did. -/
def heapLastSpec : ChangeSpec := { name := "heapLast", fn := fun _ => fun
  | [d1, d2] => { results := [.lit (.bool true)], args := [d1, d2] }
  | _ => none }
def heapLastRow : OpenClaim := { program := "yteknjkofmkigoab", sum := "0a066d40d01a720a85ba77068f726c75b5d2a18e705886de38c946db26b9c46f", func := "trestle/trestlelaw06.HeapLast", spec := "heapLast", apart := false }
def HeapLastSaid : Prop := heapLastRow.holds Try.pinned (OpenSpec.ofChange heapLastSpec)

/-- ITS FALSE NEIGHBOUR: 'it returns false'. Refute it at one input. -/
def heapLastWrong : ChangeSpec := { name := "heapLast", fn := fun _ => fun
  | [d1, d2] => { results := [.lit (.bool false)], args := [d1, d2] }
  | _ => none }
def HeapLastWrongFalsely : Prop := heapLastRow.holds Try.pinned (OpenSpec.ofChange heapLastWrong)

/- THE SECOND FORM. 'bulk': how many values and letters a reading holds, each counted each time it is reached (what is shared counts as often as it is met; a slice's spare places count too). A statement '..UptoSaid' is the law's where the arguments, and the package variables that the reading takes, are together of bulk at most 1048576: NARROWER than '..Said'. Prove '..Said' where nothing that the law and all that it calls make is longer than what came in: it says more and counts as full. Else prove '..UptoSaid'. A law counts once. -/
mutual
def uptoBulk {H : Type} : DataW H → Nat
  | .lit (.string bytes) => bytes.length + 1
  | .lit _ => 1
  | .nil => 1
  | .ptr d => uptoBulk d + 1
  | .slice elems spare => uptoBulkAll elems + uptoBulkAll spare + 1
  | .agg parts => uptoBulkAll parts + 1
  | .iface _ d => uptoBulk d + 1
  | .map entries => uptoBulkEntries entries + 1
  | .held _ => 1
def uptoBulkAll {H : Type} : List (DataW H) → Nat
  | [] => 0
  | d :: r => uptoBulk d + uptoBulkAll r
def uptoBulkEntries {H : Type} : List (Lit × DataW H) → Nat
  | [] => 0
  | x :: r => uptoBulkEntry x + uptoBulkEntries r
def uptoBulkEntry {H : Type} : Lit × DataW H → Nat
  | (.string bytes, d) => bytes.length + uptoBulk d + 1
  | (_, d) => uptoBulk d + 1
 end
def uptoSmall : (H : Type) → List (DataW H) → Bool := fun _ ds => decide (uptoBulkAll ds ≤ 1048576)
def OpenSpec.upto (s : _root_.Go.ChangeSpec) : _root_.Go.OpenSpec := { _root_.Go.OpenSpec.ofChange s with cond := some uptoSmall }

/-- 'trestlelaw05.CensusAdds', WHERE WHAT IT READS IS OF BULK AT MOST 1048576: true; the input reads as it did. -/
def censusAddsUptoRow : OpenClaim := { program := "yteknjkofmkigoab", sum := "0a066d40d01a720a85ba77068f726c75b5d2a18e705886de38c946db26b9c46f", func := "trestle/trestlelaw05.CensusAdds", spec := "censusAdds", recurses := true, apart := false, narrowed := true }
def CensusAddsUptoSaid : Prop := censusAddsUptoRow.holds Try.pinned (OpenSpec.upto censusAddsSpec)

/-- 'trestlelaw06.HeapPlays', WHERE WHAT IT READS IS OF BULK AT MOST 1048576: true; the input reads as it did. -/
def heapPlaysUptoRow : OpenClaim := { program := "yteknjkofmkigoab", sum := "0a066d40d01a720a85ba77068f726c75b5d2a18e705886de38c946db26b9c46f", func := "trestle/trestlelaw06.HeapPlays", spec := "heapPlays", apart := false, narrowed := true }
def HeapPlaysUptoSaid : Prop := heapPlaysUptoRow.holds Try.pinned (OpenSpec.upto heapPlaysSpec)

/-- 'trestlelaw06.HeapCalls', WHERE WHAT IT READS IS OF BULK AT MOST 1048576: true; the input reads as it did. -/
def heapCallsUptoRow : OpenClaim := { program := "yteknjkofmkigoab", sum := "0a066d40d01a720a85ba77068f726c75b5d2a18e705886de38c946db26b9c46f", func := "trestle/trestlelaw06.HeapCalls", spec := "heapCalls", apart := false, narrowed := true }
def HeapCallsUptoSaid : Prop := heapCallsUptoRow.holds Try.pinned (OpenSpec.upto heapCallsSpec)

/-- 'trestlelaw06.HeapLives', WHERE WHAT IT READS IS OF BULK AT MOST 1048576: true; the input reads as it did. -/
def heapLivesUptoRow : OpenClaim := { program := "yteknjkofmkigoab", sum := "0a066d40d01a720a85ba77068f726c75b5d2a18e705886de38c946db26b9c46f", func := "trestle/trestlelaw06.HeapLives", spec := "heapLives", apart := false, narrowed := true }
def HeapLivesUptoSaid : Prop := heapLivesUptoRow.holds Try.pinned (OpenSpec.upto heapLivesSpec)

/-- 'trestlelaw06.HeapMemory', WHERE WHAT IT READS IS OF BULK AT MOST 1048576: true; the input reads as it did. -/
def heapMemoryUptoRow : OpenClaim := { program := "yteknjkofmkigoab", sum := "0a066d40d01a720a85ba77068f726c75b5d2a18e705886de38c946db26b9c46f", func := "trestle/trestlelaw06.HeapMemory", spec := "heapMemory", apart := false, narrowed := true }
def HeapMemoryUptoSaid : Prop := heapMemoryUptoRow.holds Try.pinned (OpenSpec.upto heapMemorySpec)

/-- 'trestlelaw06.HeapLast', WHERE WHAT IT READS IS OF BULK AT MOST 1048576: true; the input reads as it did. -/
def heapLastUptoRow : OpenClaim := { program := "yteknjkofmkigoab", sum := "0a066d40d01a720a85ba77068f726c75b5d2a18e705886de38c946db26b9c46f", func := "trestle/trestlelaw06.HeapLast", spec := "heapLast", apart := false, narrowed := true }
def HeapLastUptoSaid : Prop := heapLastUptoRow.holds Try.pinned (OpenSpec.upto heapLastSpec)

end Rows
end Go.Proofs.Yteknjkofmkigoab
