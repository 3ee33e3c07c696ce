/- The law HeapCalls, whole. -/
import Derived.Test.YteknjkofmkigoabCa
namespace Go.Proofs.Yteknjkofmkigoab.H
open Go.RowKit

theorem calls_walk (n : Int) (l : List (Int × Int)) (v : Value) (w : World) (h : Ops w.heap.size w v l) :
    Calls Try.prog 5 #[.int .i64 n, v] w fun e w' => e = .returned (.bool true) ∧ Below w.heap.size w w' := by
  by_cases h0 : n < 0 ∨ 400000 < n
  · exact calls_bad n l v w h h0
  · exact calls_good n l v w h (by omega) (by omega)
end Go.Proofs.Yteknjkofmkigoab.H
