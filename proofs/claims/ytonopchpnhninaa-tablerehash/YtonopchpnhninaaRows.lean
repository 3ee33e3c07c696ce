/-
  No cell of these rows narrows 'for every input' (looked for: loops, veiled, ifaces, maps, wideKeys, modest, calm, conditions, laid).
  DERIVED. THE GIVEN ROWS OF THIS SEAT. 3 by the template 'for every input the law returns true; each argument reads behind the call as it read before'; 0 by the template 'total and deterministic' (their statements: YtonopchpnhninaaTotals.lean).
  GIVEN WITH THE SEED: the statements are not yours to turn. If you find one false, say at which input.
  Laid BY PROGRAM, IN A SANDBOX (cutbox-rows.mjs): the forced cells as the released guide's own fill.sh prints them over the translation 242d6817544bb56a… (all of the seat's roots in one cut). By AI agents, Wed Nov 11 2026. No macro, syntax, notation, axiom, sorry.
-/
import Derived.Test.YtonopchpnhninaaChecked
import GoSem.Claim
import GoSem.ClaimJoined
import GoSem.ClaimMapViews
import Derived.JoinedTies
import Derived.KernelRfl
namespace Go.Proofs.Ytonopchpnhninaa
/- THE CELL 'sum', in the pinned program and in every row, IS THE sha256 OF THE DUMP (.gsa) THAT YtonopchpnhninaaProg.lean LOADS. Nothing in Lean hashes anything: it is a label: what it is worth is what the hold of that sum in a sandbox is worth. -/
noncomputable def Try.pinned : Pinned := { name := "ytonopchpnhninaa", sum := "242d6817544bb56a141532fcf1f12451585b91fd4462933d353b170bb83595e5", checked := Try.checked }
namespace Rows
def none {H : Type} : Left H := { results := [], args := [] }

/-- 'trestlelaw08.TableMap': WHATEVER THE INPUT: true; the input reads as it did. -/
def tableMapSpec : ChangeSpec := { name := "tableMap", fn := fun _ => fun
  | [d] => { results := [.lit (.bool true)], args := [d] }
  | _ => none }
def tableMapRow : OpenClaim := { program := "ytonopchpnhninaa", sum := "242d6817544bb56a141532fcf1f12451585b91fd4462933d353b170bb83595e5", func := "trestle/trestlelaw08.TableMap", spec := "tableMap", unfollowed := true, recurses := true, apart := false }
def TableMapSaid : Prop := tableMapRow.holds Try.pinned (OpenSpec.ofChange tableMapSpec)

/-- ITS FALSE NEIGHBOUR: 'it returns false'. Refute it at one input. -/
def tableMapWrong : ChangeSpec := { name := "tableMap", fn := fun _ => fun
  | [d] => { results := [.lit (.bool false)], args := [d] }
  | _ => none }
def TableMapWrongFalsely : Prop := tableMapRow.holds Try.pinned (OpenSpec.ofChange tableMapWrong)

/-- 'trestlelaw08.TableRehash': WHATEVER THE INPUT: true; the input reads as it did. -/
def tableRehashSpec : ChangeSpec := { name := "tableRehash", fn := fun _ => fun
  | [d] => { results := [.lit (.bool true)], args := [d] }
  | _ => none }
def tableRehashRow : OpenClaim := { program := "ytonopchpnhninaa", sum := "242d6817544bb56a141532fcf1f12451585b91fd4462933d353b170bb83595e5", func := "trestle/trestlelaw08.TableRehash", spec := "tableRehash", unfollowed := true, recurses := true, apart := false }
def TableRehashSaid : Prop := tableRehashRow.holds Try.pinned (OpenSpec.ofChange tableRehashSpec)

/-- ITS FALSE NEIGHBOUR: 'it returns false'. Refute it at one input. -/
def tableRehashWrong : ChangeSpec := { name := "tableRehash", fn := fun _ => fun
  | [d] => { results := [.lit (.bool false)], args := [d] }
  | _ => none }
def TableRehashWrongFalsely : Prop := tableRehashRow.holds Try.pinned (OpenSpec.ofChange tableRehashWrong)

/-- 'trestlelaw08.TableRow': WHATEVER THE INPUT: true; the input reads as it did. -/
def tableRowSpec : ChangeSpec := { name := "tableRow", fn := fun _ => fun
  | [d1, d2] => { results := [.lit (.bool true)], args := [d1, d2] }
  | _ => none }
def tableRowRow : OpenClaim := { program := "ytonopchpnhninaa", sum := "242d6817544bb56a141532fcf1f12451585b91fd4462933d353b170bb83595e5", func := "trestle/trestlelaw08.TableRow", spec := "tableRow", unfollowed := true, recurses := true, apart := false }
def TableRowSaid : Prop := tableRowRow.holds Try.pinned (OpenSpec.ofChange tableRowSpec)

/-- ITS FALSE NEIGHBOUR: 'it returns false'. Refute it at one input. -/
def tableRowWrong : ChangeSpec := { name := "tableRow", fn := fun _ => fun
  | [d1, d2] => { results := [.lit (.bool false)], args := [d1, d2] }
  | _ => none }
def TableRowWrongFalsely : Prop := tableRowRow.holds Try.pinned (OpenSpec.ofChange tableRowWrong)

/- THE SECOND FORM. 'bulk': how many values and letters a reading holds, each counted each time it is reached (what is shared counts as often as it is met; a slice's spare places count too). A statement '..UptoSaid' is the law's where the arguments, and the package variables that the reading takes, are together of bulk at most 1048576: NARROWER than '..Said'. Prove '..Said' where nothing that the law and all that it calls make is longer than what came in: it says more and counts as full. Else prove '..UptoSaid'. A law counts once. -/
mutual
def uptoBulk {H : Type} : DataW H → Nat
  | .lit (.string bytes) => bytes.length + 1
  | .lit _ => 1
  | .nil => 1
  | .ptr d => uptoBulk d + 1
  | .slice elems spare => uptoBulkAll elems + uptoBulkAll spare + 1
  | .agg parts => uptoBulkAll parts + 1
  | .iface _ d => uptoBulk d + 1
  | .map entries => uptoBulkEntries entries + 1
  | .held _ => 1
def uptoBulkAll {H : Type} : List (DataW H) → Nat
  | [] => 0
  | d :: r => uptoBulk d + uptoBulkAll r
def uptoBulkEntries {H : Type} : List (Lit × DataW H) → Nat
  | [] => 0
  | x :: r => uptoBulkEntry x + uptoBulkEntries r
def uptoBulkEntry {H : Type} : Lit × DataW H → Nat
  | (.string bytes, d) => bytes.length + uptoBulk d + 1
  | (_, d) => uptoBulk d + 1
 end
def uptoSmall : (H : Type) → List (DataW H) → Bool := fun _ ds => decide (uptoBulkAll ds ≤ 1048576)
def OpenSpec.upto (s : _root_.Go.ChangeSpec) : _root_.Go.OpenSpec := { _root_.Go.OpenSpec.ofChange s with cond := some uptoSmall }

/-- 'trestlelaw08.TableMap', WHERE WHAT IT READS IS OF BULK AT MOST 1048576: true; the input reads as it did. -/
def tableMapUptoRow : OpenClaim := { program := "ytonopchpnhninaa", sum := "242d6817544bb56a141532fcf1f12451585b91fd4462933d353b170bb83595e5", func := "trestle/trestlelaw08.TableMap", spec := "tableMap", unfollowed := true, recurses := true, apart := false, narrowed := true }
def TableMapUptoSaid : Prop := tableMapUptoRow.holds Try.pinned (OpenSpec.upto tableMapSpec)

/-- 'trestlelaw08.TableRehash', WHERE WHAT IT READS IS OF BULK AT MOST 1048576: true; the input reads as it did. -/
def tableRehashUptoRow : OpenClaim := { program := "ytonopchpnhninaa", sum := "242d6817544bb56a141532fcf1f12451585b91fd4462933d353b170bb83595e5", func := "trestle/trestlelaw08.TableRehash", spec := "tableRehash", unfollowed := true, recurses := true, apart := false, narrowed := true }
def TableRehashUptoSaid : Prop := tableRehashUptoRow.holds Try.pinned (OpenSpec.upto tableRehashSpec)

/-- 'trestlelaw08.TableRow', WHERE WHAT IT READS IS OF BULK AT MOST 1048576: true; the input reads as it did. -/
def tableRowUptoRow : OpenClaim := { program := "ytonopchpnhninaa", sum := "242d6817544bb56a141532fcf1f12451585b91fd4462933d353b170bb83595e5", func := "trestle/trestlelaw08.TableRow", spec := "tableRow", unfollowed := true, recurses := true, apart := false, narrowed := true }
def TableRowUptoSaid : Prop := tableRowUptoRow.holds Try.pinned (OpenSpec.upto tableRowSpec)

end Rows
end Go.Proofs.Ytonopchpnhninaa
