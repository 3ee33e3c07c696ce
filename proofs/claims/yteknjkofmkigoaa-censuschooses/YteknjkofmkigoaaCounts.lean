/- The walks of the laws CensusCounts and CensusChooses. -/
import Derived.Test.YteknjkofmkigoaaApp
import Derived.Test.YteknjkofmkigoaaRcnt
namespace Go.Proofs.Yteknjkofmkigoaa
open Go.RowKit

set_option maxHeartbeats 1000000 in
theorem counts_walk (l : List Int) (n : Int) (v : Value) (w : World) (h : Ints w.heap.size w v l) (hf : Fit l) (hbig : l.length ≤ 9223372036854775807) (hn : n ≤ 9223372036854775807) :
    Calls Try.prog 3 #[v, .int .i64 n] w fun e w' => e = .returned (.bool true) ∧ Below w.heap.size w w' := by
  have C1 := fun W => slice_any n W hn
  have C2 := fun W => rslice_any n W hn
  have hlen := fewLen l
  have hf3 := hf.take 3000
  have D1 := fun W (hb : Below w.heap.size w W) => few_any l v W (h.go hb) hbig
  clear h hn hbig hf
  generalize lg n = s at *
  go_enter Try.func3, Try.ntmps3
  go_wp2_with fail
  refine (fixed_any w).mono ?_
  rintro e w1 ⟨rfl, b1⟩
  go_wp2_with (first | (go_at_call 10; refine (C1 _).mono ?_; rintro e w' ⟨rfl, rfl⟩) | (go_at_call 11; refine (C2 _).mono ?_; rintro e w' ⟨rfl, rfl⟩))
  have b2 : Below w.heap.size w (w'.alloc (.cells #[] 3)) := bthen b1 b1.size (balloc _ _)
  refine (D1 _ b2).mono ?_
  rintro e w2 ⟨v2, rfl, rfl, i2⟩
  obtain ⟨v3, w3, hr, ho, hb3⟩ := app_copy (l.take 3000) v2 w' i2 (by omega)
  have b3 : Below w.heap.size w w3 := bthen b1 b1.size hb3
  have E1 := count_any (l.take 3000) v3 w3 (ints_own ho) hf3 (by omega)
  clear i2 ho hb3 b2 C1 C2
  go_wp2_with (at_builtin; refine wp_app rfl _ _ 22 rfl 22 rfl _ _ rfl rfl hr ?_)
  refine E1.mono ?_
  rintro e w4 ⟨rfl, o4, hb4⟩
  have b4 : Below w.heap.size w w4 := bthen b3 b3.size hb4
  have i4 := o4.ints'
  clear E1 hr b3 hb4 o4
  go_wp2_with fail
  refine (D1 _ b4).mono ?_
  rintro e w5 ⟨v5, rfl, rfl, i5⟩
  go_wp2_with fail
  refine (rcount_any _ _ _ i5 hf3 (by omega)).mono ?_
  rintro e w6 ⟨rfl, o6, hb6⟩
  have i6 := o6.ints'
  have i4b := i4.go hb6
  have b6 := bthen b4 b4.size hb6
  clear i4 i5 o6 hb6 D1
  go_wp2_with fail
  refine (same_walk _ _ _ _ _ i4b i6 rfl (by rw [cntL_len]; omega)).mono ?_
  rintro e w7 ⟨rfl, hb7⟩
  have b7 := bthen b6 b6.size hb7
  rw [show decide (cntL (l.take 3000) = cntL (l.take 3000)) = true by simp]
  clear i4b i6 b6 hb7
  go_wp2_with fail
  go_ret
  exact ⟨rfl, b7⟩

set_option maxHeartbeats 1000000 in
theorem chooses_walk (l : List Int) (v : Value) (w : World) (h : Ints w.heap.size w v l) (hbig : l.length * 8 ≤ 140737488355328) :
    Calls Try.prog 4 #[v] w fun e w' => e = .returned (.bool true) ∧ Below w.heap.size w w' := by
  obtain ⟨v3, w3, hr, ho, b3⟩ := app_copy l v w (h.go (balloc w _)) hbig
  have E1 := choose_any l v3 w3 (ints_own ho)
  have E2 := rchoose_any l v w3 (h.go b3)
  clear h hbig ho
  generalize chA' l = A at *
  generalize chN' l = N at *
  generalize chE l = E at *
  go_enter Try.func4, Try.ntmps4
  go_wp2_with (at_builtin; refine wp_app rfl _ _ 22 rfl 22 rfl _ _ rfl rfl hr ?_)
  refine E1.mono ?_
  rintro e w4 ⟨rfl, rfl⟩
  go_wp2_with fail
  refine E2.mono ?_
  rintro e w5 ⟨rfl, rfl⟩
  clear hr E1 E2
  go_wp2_with fail
  refine (fixed_any w5).mono ?_
  rintro e w6 ⟨rfl, b6⟩
  go_wp2_with fail
  go_ret
  exact ⟨rfl, bthen b3 b3.size b6⟩

end Go.Proofs.Yteknjkofmkigoaa
