/- The answer that stands ahead of each law of the heap. -/
import Derived.Test.YteknjkofmkigoabPy
import Derived.Test.YteknjkofmkigoabLi
namespace Go.Proofs.Yteknjkofmkigoab.H
open Go.RowKit

def l5 : List (Int × Int) := [(1, 4), (1, 4), (1, 4), (2, 1), (1, 4)]
theorem l5f : inF l5 = true := by decide +kernel
theorem l5g : gotAt 10 l5 2 1 = 10 ∧ gotAt 10 l5 4 0 = 1 ∧ gotAt 10 l5 4 2 = 8 ∧ gotAt 10 l5 4 3 = 8 := by decide +kernel
theorem l5b : tids (stAt 10 l5 5).bl (stAt 10 l5 5).bl.length = [1, 2] := by decide +kernel
def o5 : Array Value := #[.int .i64 1, .int .i64 4, .int .i64 1, .int .i64 4, .int .i64 1, .int .i64 4, .int .i64 2, .int .i64 1, .int .i64 1, .int .i64 4]
theorem ops5 (w : World) : Ops (w.alloc (.cells o5 56)).heap.size (w.alloc (.cells o5 56)) (.slice (some ⟨w.heap.size, 0, none⟩) 5 5) l5 := by
  have hh := heap_alloc_new w (.cells o5 56)
  refine ⟨_, 5, rfl, Nat.le_refl _, fun _ => ⟨w.heap.size, 0, rfl, by simp, fun i hi => ?_⟩⟩
  rw [cell_row hh, cell_row hh]
  match i, hi with
  | 0, _ => exact ⟨rfl, rfl⟩
  | 1, _ => exact ⟨rfl, rfl⟩
  | 2, _ => exact ⟨rfl, rfl⟩
  | 3, _ => exact ⟨rfl, rfl⟩
  | 4, _ => exact ⟨rfl, rfl⟩

set_option maxRecDepth 20000 in
set_option maxHeartbeats 1000000 in
theorem fixed_any (w : World) : Calls Try.prog 18 #[] w fun e w' => e = .returned (.bool true) ∧ Below w.heap.size w w' := by
  have C := play_good 10 l5 _ _ (ops5 w) (by omega) (by omega) (by decide) l5f
  rw [show l5.length = 5 from rfl, l5b] at C
  have K : ∀ W v, Ints W.heap.size W v [1, 2] → Calls Try.prog 13 #[v, .slice (some ⟨W.heap.size, 0, none⟩) 2 2] (W.alloc (.cells #[.int .i64 1, .int .i64 2] 3)) fun e w' => e = .returned (.bool true) ∧ Below (W.alloc (.cells #[.int .i64 1, .int .i64 2] 3)).heap.size (W.alloc (.cells #[.int .i64 1, .int .i64 2] 3)) w' := fun W v h => by
    have := same_walk [1, 2] [1, 2] v _ _ (h.go (balloc W _)) (ints_new W [1, 2] 2 (by decide)) rfl (by decide)
    rwa [decide_eq_true rfl] at this
  go_enter Try.func18, Try.ntmps18
  go_wp2_with fail
  refine C.mono ?_
  rintro e w1 ⟨G, v', rfl, hg, hG0, hG1, ⟨B, _, _, hB⟩, b1⟩
  clear C
  have r1 := hg.done 2 1 (by omega) (by omega) (by omega)
  have r2 := hg.done 4 0 (by omega) (by omega) (by omega)
  have r3 := hg.done 4 2 (by omega) (by omega) (by omega)
  have r4 := hg.done 4 3 (by omega) (by omega) (by omega)
  rw [l5g.1] at r1
  rw [l5g.2.1] at r2
  rw [l5g.2.2.1] at r3
  rw [l5g.2.2.2] at r4
  simp only [Nat.reduceMul, Nat.reduceAdd] at r1 r2 r3 r4
  have K2 := K w1 v' (ints_own hB)
  have b2 : Below w.heap.size w w1 := bthen (balloc w _) (by simp) b1
  clear hg hB K b1
  go_wp2_with fail
  refine K2.mono ?_
  rintro e w2 ⟨rfl, b3⟩
  go_wp2_with fail
  go_ret
  exact ⟨rfl, bthen b2 b2.size (bthen (balloc w1 _) (by simp) b3)⟩
end Go.Proofs.Yteknjkofmkigoab.H
