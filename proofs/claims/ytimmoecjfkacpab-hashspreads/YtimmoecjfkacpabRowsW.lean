/- The walks of the laws HashRows and HashAgain. -/
import Derived.Test.YtimmoecjfkacpabRow
namespace Go.Proofs.Ytimmoecjfkacpab
open Go.RowKit

theorem bsize {B : Nat} {w w' : World} (h : Below B w w') : w.heap.size ≤ w'.heap.size := h.size

set_option maxHeartbeats 600000 in
theorem rows_walk (first n z : Int) (w : World) : Calls Try.prog 5 #[.int .i64 first, .int .i64 n, .int .i64 z] w fun e w' => e = .returned (.bool true) ∧ Below w.heap.size w w' := by
  have C1 := row_any first n z
  have C2 := rrow_any first n z
  have hlen := rL_len first n z
  generalize rL first n z = l at *
  generalize rE n z = er at *
  go_enter Try.func5, Try.ntmps5
  go_wp2_with fail
  refine (C1 w).mono ?_
  rintro e w1 ⟨v1, rfl, i1, b1, o2⟩
  clear o2
  go_wp2_with fail
  refine (C2 w1).mono ?_
  rintro e w2 ⟨v2, rfl, i2, b2⟩
  go_wp2_with fail
  refine (fixed_any w2).mono ?_
  rintro e w3 ⟨rfl, b3⟩
  have j1 := ((i1.below b2).mono (bsize b2)).below b3 |>.mono (bsize b3)
  have j2 := (i2.below b3).mono (bsize b3)
  go_wp2_with fail
  refine (same_any l v1 v2 w3 j1 j2 hlen).mono ?_
  rintro e w4 ⟨rfl, b4⟩
  go_wp2_with fail
  go_ret
  exact ⟨rfl, bthen (bthen (bthen b1 (bsize b1) b2) (Nat.le_trans (bsize b1) (bsize b2)) b3) (Nat.le_trans (bsize b1) (Nat.le_trans (bsize b2) (bsize b3))) b4⟩

set_option maxHeartbeats 600000 in
theorem again_walk (first n z : Int) (w : World) : Calls Try.prog 7 #[.int .i64 first, .int .i64 n, .int .i64 z] w fun e w' => e = .returned (.bool true) ∧ Below w.heap.size w w' := by
  have C1 := row_any first n z
  have C2 := rrow_any first n z
  have hlen := rL_len first n z
  generalize rL first n z = l at *
  generalize rE n z = er at *
  go_enter Try.func7, Try.ntmps7
  go_wp2_with fail
  refine (fixed_any w).mono ?_
  rintro e w0 ⟨rfl, b0⟩
  go_wp2_with fail
  refine (C1 w0).mono ?_
  rintro e w1 ⟨v1, rfl, i1, b1, o1⟩
  go_wp2_with fail
  refine (C1 w1).mono ?_
  rintro e w2 ⟨v2, rfl, i2, b2, o2⟩
  clear o2
  go_wp2_with fail
  refine (C2 w2).mono ?_
  rintro e w3 ⟨v3, rfl, i3, b3⟩
  have j1 := ((i1.below b2).mono (bsize b2)).below b3 |>.mono (bsize b3)
  have j2 := (i2.below b3).mono (bsize b3)
  have z0 := bsize b0
  have z1 := bsize b1
  have z2 := bsize b2
  have z3 := bsize b3
  have bb : Below w.heap.size w w3 := bthen (bthen (bthen b0 z0 b1) (Nat.le_trans z0 z1) b2) (Nat.le_trans z0 (Nat.le_trans z1 z2)) b3
  go_wp2_with fail
  refine (same_any l v1 v2 w3 j1 j2 hlen).mono ?_
  rintro e w4 ⟨rfl, b4⟩
  have z4 := bsize b4
  have bb4 : Below w.heap.size w w4 := bthen bb (by omega) b4
  have k1 := (j1.below b4).mono z4
  have k2 := (j2.below b4).mono z4
  have k3 := (i3.below b4).mono z4
  by_cases hl : l = []
  · subst hl
    obtain ⟨a, cap, rfl, _⟩ := k1
    go_wp2_with fail
    refine wp_loop_rounds 1 ?_
    rw [rounds_succ]
    go_wp2_with fail
    refine (same_any [] v2 v3 w4 k2 k3 (by simp)).mono ?_
    rintro e w5 ⟨rfl, b5⟩
    go_wp2_with fail
    go_ret
    exact ⟨rfl, bthen bb4 (by omega) b5⟩
  · obtain ⟨rfl, hf⟩ := o1 hl
    obtain ⟨a, cap, he, hx⟩ := k1
    obtain ⟨g, rfl, hg, hc⟩ := hx hl
    injection he with he1 he2 he3
    injection he1 with he1
    injection he1 with he1
    subst he1
    clear hx
    have hz1 : w0.heap.size < w1.heap.size := by
      obtain ⟨a, cap, he, hx⟩ := i1
      obtain ⟨g, rfl, hg, hc⟩ := hx hl
      injection he with he1 he2 he3
      injection he1 with he1
      injection he1 with he1
      omega
    have hf4 : ∀ i, i < l.length → w4.frozen? ⟨w0.heap.size, i, none⟩ = false := fun i hi => by
      rw [b4.frozen (show w0.heap.size < _ by omega), b3.frozen (show w0.heap.size < _ by omega), b2.frozen (show w0.heap.size < _ by omega)]
      exact hf i hi
    have HC : Hid (∀ i, i < l.length → ∃ x, w4.cell? ⟨w0.heap.size, i, none⟩ = some x) := fun i hi => ⟨_, hc i hi⟩
    have HF : Hid _ := hf4
    obtain ⟨L, hL⟩ : ∃ L, l.length = L := ⟨_, rfl⟩
    have hL2 : L ≤ 1000 := by omega
    obtain ⟨G, hG⟩ : ∃ G, w0.heap.size = G := ⟨_, rfl⟩
    have hGw : w.heap.size ≤ G := by omega
    rw [hL, hG] at HC HF ⊢
    have K2 : Ints (G + 1) w4.heap.size w4 v2 l := by
      obtain ⟨a, cap, rfl, h⟩ := k2
      refine ⟨a, cap, rfl, fun hl => ?_⟩
      obtain ⟨g, rfl, hg, hc⟩ := h hl
      exact ⟨g, rfl, by omega, hc⟩
    have K3 : Ints (G + 1) w4.heap.size w4 v3 l := by
      obtain ⟨a, cap, rfl, h⟩ := k3
      refine ⟨a, cap, rfl, fun hl => ?_⟩
      obtain ⟨g, rfl, hg, hc⟩ := h hl
      exact ⟨g, rfl, by omega, hc⟩
    clear hc hf hf4 hg he2 he3 o1 i1 i2 i3 j1 j2 k2 k3 b0 b1 b2 b3 b4 bb hz1 z0 z1 z2 z3 z4 hG hL C1 C2
    go_wp2_with fail
    go_loopw [13] (fun i wr => ∃ k : Nat, i = .int .i64 k ∧ k ≤ L ∧ Hid (∀ j, j < L → ∃ x, wr.cell? ⟨G, j, none⟩ = some x) ∧ Hid (∀ j, j < L → wr.frozen? ⟨G, j, none⟩ = false) ∧ Hid (∀ b, b ≠ G → wr.heap[b]? = w4.heap[b]?) ∧ wr.heap.size = w4.heap.size ∧ Below w.heap.size w wr) (fun i _ => L - (intOf i).toNat)
    case atStart => exact ⟨0, rfl, by omega, HC, HF, fun _ _ => rfl, rfl, bb4⟩
    case round =>
      obtain ⟨k, rfl, hk, HC1, HF1, HB, hs, hb⟩ := hrel
      by_cases hlt : k < L
      · have hlt' : (k : Int) < (L : Int) := by omega
        obtain ⟨x, c1⟩ := HC1.out k hlt
        have f1 := HF1.out k hlt
        go_wp2
        go_roundw
        case rel =>
          refine ⟨k + 1, by go_num, by omega, fun j hj => ?_, fun j hj => ?_, fun b hb2 => ?_, by simpa using hs, hb.setCell (by exact hGw) _⟩
          · by_cases hjk : j = k
            · subst hjk
              exact ⟨_, World.cell?_setCell_same _ _ _ c1⟩
            · rw [World.cell?_setCell_other _ _ _ _ (fun q => by injection q with _ q2; omega)]
              exact HC1.out j hj
          · rw [World.frozen?_setCell]; exact HF1.out j hj
          · rw [Below.heap_setCell _ _ _ _ hb2]; exact HB.out b hb2
        case measure => simp [intOf]; omega
      · have K2' : Ints (G + 1) wr.heap.size wr v2 l := (hs ▸ K2).keep fun g hg _ => HB.out g (by omega)
        have K3' : Ints (G + 1) wr.heap.size wr v3 l := (hs ▸ K3).keep fun g hg _ => HB.out g (by omega)
        go_wp2_with fail
        refine (same_any l v2 v3 wr K2' K3' hlen).mono ?_
        rintro e w5 ⟨rfl, b5⟩
        go_wp2_with fail
        go_ret
        exact ⟨rfl, bthen hb hb.size b5⟩

end Go.Proofs.Ytimmoecjfkacpab
