/- The walk of the law HeapPlays. -/
import Derived.Test.YteknjkofmkigoabLo
namespace Go.Proofs.Yteknjkofmkigoab.H
open Go.RowKit

theorem len_op (s : St) (k n : Int) : (opSt s k n).bl.length ≤ s.bl.length + 1 := by
  unfold opSt
  split
  · unfold takeSt
    split
    · omega
    · split
      · omega
      · split
        · omega
        · split
          · simp
          · simp only [setT_len]; omega
  · split
    · unfold giveSt
      split
      · simp only [setT_len]; omega
      · omega
    · unfold spendSt
      split
      · omega
      · split
        · omega
        · show s.bl.length ≤ _; omega
theorem len_at (n : Int) (l : List (Int × Int)) (k : Nat) : (stAt n l k).bl.length ≤ k := by
  induction k with
  | zero => exact Nat.le_refl _
  | succ k ih => exact Nat.le_trans (len_op _ _ _) (by omega)
theorem pl_ok {n : Int} {l : List (Int × Int)} (h : plE n l = 0) : 0 ≤ n ∧ n ≤ 400000 ∧ l.length ≤ 1000 ∧ inF l = true := by
  unfold plE at h
  by_cases q1 : n < 0 ∨ 400000 < n
  · rw [if_pos q1] at h; omega
  · rw [if_neg q1] at h
    by_cases q2 : 1000 < l.length
    · rw [if_pos q2] at h; omega
    · rw [if_neg q2] at h
      by_cases q3 : inF l = true
      · exact ⟨by omega, by omega, by omega, q3⟩
      · rw [if_neg q3] at h; omega
set_option maxHeartbeats 1000000 in
theorem sameG_nil (w : World) : Calls Try.prog 19 #[.slice none 0 0, .slice none 0 0] w fun e w' => e = .returned (.bool true) ∧ w' = w := by
  go_enter Try.func19, Try.ntmps19
  go_wp2_with fail
  go_loop [5] (fun i => i = .int .i64 0) (fun _ => 0)
  case atStart => rfl
  case round =>
    subst hrel
    go_wp2_with fail
    go_ret
    exact ⟨rfl, rfl⟩
theorem ints_nil (w : World) : Ints w.heap.size w (.slice none 0 0) [] := ⟨none, 0, rfl, Nat.le_refl _, fun h => absurd rfl h⟩
theorem same_nil (w : World) : Calls Try.prog 13 #[.slice none 0 0, .slice none 0 0] w fun e w' => e = .returned (.bool true) ∧ Below w.heap.size w w' := by
  have := same_walk [] [] _ _ w (ints_nil w) (ints_nil w) rfl (by simp)
  rwa [decide_eq_true rfl] at this

set_option maxRecDepth 20000 in
set_option maxHeartbeats 2000000 in
theorem plays_walk (n : Int) (l : List (Int × Int)) (v : Value) (w : World) (h : Ops w.heap.size w v l) (hl : l.length * 16 ≤ 140737488355328) :
    Calls Try.prog 4 #[.int .i64 n, v] w fun e w' => e = .returned (.bool true) ∧ Below w.heap.size w w' := by
  have C1 := few_any l v w h (by omega)
  obtain ⟨hf1, hf2⟩ := fewO_len l
  clear h
  generalize fewO l = m at *
  go_enter Try.func4, Try.ntmps4
  go_wp2_with fail
  refine C1.mono ?_
  rintro e w1 ⟨v1, rfl, rfl, o1⟩
  clear C1
  have C2 := ops_any m v1 w1 o1 (by omega)
  go_wp2_with fail
  refine C2.mono ?_
  rintro e w2 ⟨v2, rfl, r2, b2⟩
  clear C2
  have o2 := ops_own r2
  by_cases hE : plE n m = 0
  · obtain ⟨p1, p2, p3, p4⟩ := pl_ok hE
    have C3 := play_good n m v2 w2 o2 p1 p2 p3 p4
    go_wp2_with fail
    refine C3.mono ?_
    rintro e w3 ⟨G, v3, rfl, g3, hG0, hG1, ⟨B3, _, _, i3⟩, b3⟩
    clear C3
    have b4 := bthen b2 b2.size b3
    have C4 := rplay_good n m v1 w3 (o1.go b4) p1 p2 p3 p4
    go_wp2_with fail
    refine C4.mono ?_
    rintro e w4 ⟨u4, v4, rfl, r4, ⟨B4, _, i4⟩, b5⟩
    clear C4
    have b6 := bthen b4 b4.size b5
    go_wp2_with fail
    refine (fixed_any w4).mono ?_
    rintro e w5 ⟨rfl, b7⟩
    have g5 : Gots G m.length w5 n m m.length := (g3.keep (b5.block G hG1)).keep (b7.block G (by have := b5.size; omega))
    have r5 := own_keep (w' := w5) r4 (fun q e => b7.block q (r4.lt q e).2)
    have i5 : Ints w5.heap.size w5 v3 (tids (stAt n m m.length).bl (stAt n m m.length).bl.length) := ((ints_own i3).go b5).go b7
    have j5 : Ints w5.heap.size w5 v4 (tids (stAt n m m.length).bl (stAt n m m.length).bl.length) := (ints_own i4).go b7
    have b8 := bthen b6 b6.size b7
    have C5 := sameG_any n m G u4 w5 _ g5 r5 p3
    clear g3 r4 i3 i4 b5 b6 b7 b4 b3 g5 r5
    go_wp2_with fail
    refine C5.mono ?_
    rintro e w6 ⟨rfl, b9⟩
    clear C5
    have hbl : (tids (stAt n m m.length).bl (stAt n m m.length).bl.length).length ≤ 1000000 := by
      have h1 := tids_len (stAt n m m.length).bl (stAt n m m.length).bl.length
      have h2 := len_at n m m.length
      omega
    have C6 := same_walk _ _ v3 v4 w6 (i5.go b9) (j5.go b9) rfl hbl
    rw [decide_eq_true rfl] at C6
    have b10 := bthen b8 b8.size b9
    clear i5 j5 b9 b8 hbl
    go_wp2_with fail
    refine C6.mono ?_
    rintro e w7 ⟨rfl, b11⟩
    go_wp2_with fail
    go_ret
    exact ⟨rfl, bthen b10 b10.size b11⟩
  · have C3 := play_bad n m v2 w2 o2 (by omega) hE
    generalize hq : plE n m = E at *
    have HQ : Hid _ := hq
    clear hq
    go_wp2_with fail
    refine C3.mono ?_
    rintro e w3 ⟨rfl, b3⟩
    clear C3
    have b4 := bthen b2 b2.size b3
    have C4 := rplay_bad n m v1 w3 (o1.go b4) (by omega) (by rw [HQ.out]; exact hE)
    rw [HQ.out] at C4
    go_wp2_with fail
    refine C4.mono ?_
    rintro e w4 ⟨rfl, rfl⟩
    clear C4
    go_wp2_with fail
    refine (fixed_any w4).mono ?_
    rintro e w5 ⟨rfl, b7⟩
    have b8 := bthen b4 b4.size b7
    go_wp2_with fail
    refine (sameG_nil w5).mono ?_
    rintro e w6 ⟨rfl, rfl⟩
    go_wp2_with fail
    refine (same_nil w6).mono ?_
    rintro e w7 ⟨rfl, b9⟩
    go_wp2_with fail
    go_ret
    exact ⟨rfl, bthen b8 b8.size b9⟩
end Go.Proofs.Yteknjkofmkigoab.H
