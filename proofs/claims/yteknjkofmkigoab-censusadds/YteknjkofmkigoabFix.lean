/- The answers that stand ahead of each law. -/
import Derived.Test.YteknjkofmkigoabSizes
namespace Go.Proofs.Yteknjkofmkigoab
open Go.RowKit

theorem fx1 : szA [1, 2, 4, 100] 3 = 4 ∧ szH [1, 2, 4, 100] 3 = 4 ∧ szE [1, 2, 4, 100] 3 = 0 := by decide +kernel
theorem fx2 : szA [5] 0 = 0 ∧ szH [5] 0 = 1 ∧ szE [5] 0 = 0 := by decide +kernel
theorem fx3 : lg 3 = 2 := by decide +kernel

theorem new_cell (W : World) (cs : Array Value) (t : TypeId) (b i : Nat) (h : W.heap.size = b) : (W.alloc (.cells cs t)).cell? ⟨b, i, none⟩ = cs[i]? := by
  subst h
  exact cell_of_row (MapKept.heap_alloc W _).1 i
theorem ints_new (w : World) (l : List Int) (cap : Nat) (hc : l.length ≤ cap) : Ints (w.alloc (.cells (l.map (Value.int .i64)).toArray 3)).heap.size (w.alloc (.cells (l.map (Value.int .i64)).toArray 3)) (.slice (some ⟨w.heap.size, 0, none⟩) l.length cap) l := by
  refine ⟨_, cap, rfl, hc, fun _ => ⟨w.heap.size, 0, rfl, by simp, fun i hi => ?_⟩⟩
  rw [new_cell _ _ _ _ _ rfl]
  simp [List.getD, List.getElem?_eq_getElem hi]

theorem balloc (w : World) (o : Obj) : Below w.heap.size w (w.alloc o) := (Below.refl _ _).alloc (Nat.le_refl _) o

set_option maxHeartbeats 1000000 in
theorem fixed_any (w : World) : Calls Try.prog 9 #[] w fun e w' => e = .returned (.bool true) ∧ Below w.heap.size w w' := by
  have C1 := sizes_any [1, 2, 4, 100] 3 _ _ (ints_new w [1, 2, 4, 100] 4 (by decide)) (by intro i hi; match i, hi with | 0, _ => decide | 1, _ => decide | 2, _ => decide | 3, _ => decide) (by decide)
  have C2 := fun w1 => sizes_any [5] 0 _ _ (ints_new w1 [5] 1 (by decide)) (by intro i hi; match i, hi with | 0, _ => decide) (by decide)
  have C3 := fun w1 => slice_any 3 w1 (by omega)
  rw [fx1.1, fx1.2.1, fx1.2.2] at C1
  rw [fx2.1, fx2.2.1, fx2.2.2] at C2
  rw [fx3] at C3
  go_enter Try.func9, Try.ntmps9
  go_wp2_with fail
  refine C1.mono ?_
  rintro e w1 ⟨rfl, hb1⟩
  have b1 : Below w.heap.size w w1 := bthen (balloc w _) (by simp) hb1
  clear hb1 C1
  go_wp2_with fail
  refine (C2 w1).mono ?_
  rintro e w2 ⟨rfl, hb2⟩
  have b2 : Below w.heap.size w w2 := bthen b1 b1.size (bthen (balloc w1 _) (by simp) hb2)
  clear hb2 C2 b1
  go_wp2_with (go_at_call 34; refine (C3 _).mono ?_; rintro e w' ⟨rfl, rfl⟩)
  go_ret
  exact ⟨rfl, b2⟩

end Go.Proofs.Yteknjkofmkigoab
