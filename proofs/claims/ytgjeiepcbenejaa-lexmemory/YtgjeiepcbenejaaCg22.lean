/- The walk of LexMemory. -/
import Derived.Test.YtgjeiepcbenejaaCg21
namespace Go.Proofs.Ytgjeiepcbenejaa
open Go.RowKit

/-- Cells that may be written. -/
structure Fil (g n : Nat) (w : World) : Prop where
  cell : ∀ j, j < n → ∃ u, w.cell? ⟨g, j, none⟩ = some u
  free : ∀ j, j < n → w.frozen? ⟨g, j, none⟩ = false
theorem Fil.put {g n : Nat} {w : World} (h : Fil g n w) (k : Nat) (x : Value) : Fil g n (w.setCell ⟨g, k, none⟩ x) :=
  ⟨fun j hj => (h.cell j hj).elim fun _ hu => cell?_setCell_some hu, fun j hj => by rw [World.frozen?_setCell]; exact h.free j hj⟩
theorem Fil.keep {g n : Nat} {w w' : World} (h : Fil g n w) (hb : w'.heap[g]? = w.heap[g]?) : Fil g n w' :=
  ⟨fun j hj => by have := h.cell j hj; unfold World.cell? at this ⊢; rw [hb]; exact this, fun j hj => by have := h.free j hj; unfold World.frozen? at this ⊢; rw [hb]; exact this⟩
theorem Fil.row {B g cap n : Nat} {w : World} {xs : List Value} {e : TypeId} (h : w.ownsRow B e 4 (.slice (some ⟨g, 0, none⟩) n cap) n xs) (hx : xs.length = n * 4) (hn : n ≠ 0) : Fil g (n * 4) w := by
  obtain ⟨g', cap', he, _, _, _, hc⟩ := row_cells h hn
  cases he
  refine ⟨fun j hj => ⟨xs[j]'(by omega), hc _ _ (by simp)⟩, fun j hj => ?_⟩
  rcases h.2 with ⟨h0, _⟩ | ⟨g2, cap2, cur, h1, _, h3, _⟩
  · cases h0
  · cases h1
    unfold World.frozen?; rw [h3]; simp

set_option maxRecDepth 20000 in
set_option maxHeartbeats 8000000 in
theorem memory_full (s : ByteArray) (w : World) (hs' : s.size ≤ 9223372036854775807) (ts : List Tok) (c p : Int) (hR : scT s.data.toList = (ts, c, p)) : Calls Try.prog 7 #[.string s] w fun e w' => e = .returned (.bool true) ∧ Below w.heap.size w w' := by
  have CS := fun w => Scan_any s w hs'
  have CR := fun w => rScan_any s w hs'
  rw [hR] at CS CR
  simp only at CS CR
  clear hR
  have hq1 := fun W => neq25 c p c p W
  simp only [and_self, decide_true, Bool.not_true] at hq1
  have g25 := guard25
  obtain ⟨n, hn⟩ : ∃ n, ts.length = n := ⟨_, rfl⟩
  have HTN : Hid (ts.length = n) := hn
  rw [hn] at CS CR
  clear hn
  go_enter Try.func7, Try.ntmps7
  go_wp2_with fail
  refine (CS _).mono ?_
  rintro e w1 ⟨v1, rfl, ho1, hb1⟩
  obtain ⟨a1, c1, rfl⟩ := slice_shape ho1
  go_wp2_with fail
  refine (CS _).mono ?_
  rintro e w2 ⟨v2, rfl, ho2, hb2⟩
  obtain ⟨a2, c2, rfl⟩ := slice_shape ho2
  have f0 := (hb2.cell (p := ⟨w1.heap.size, 0, none⟩) (by simp)).trans (show (w1.alloc (.cells #[.int .i64 c, .int .i64 p] 25)).cell? ⟨w1.heap.size, 0, none⟩ = some (.int .i64 c) by simp [go_sem])
  have f1 := (hb2.cell (p := ⟨w1.heap.size, 1, none⟩) (by simp)).trans (show (w1.alloc (.cells #[.int .i64 c, .int .i64 p] 25)).cell? ⟨w1.heap.size, 1, none⟩ = some (.int .i64 p) by simp [go_sem])
  have hz2 : w1.heap.size < w2.heap.size := by have := hb2.size; simp at this; omega
  go_wp2_with fail
  refine (CR _).mono ?_
  rintro e w3 ⟨v3, rfl, ho3, hb3⟩
  obtain ⟨a3, c3, rfl⟩ := slice_shape ho3
  have k0 := (hb3.cell (p := ⟨w1.heap.size, 0, none⟩) (by simp; omega)).trans (alloc_cell hz2 f0 _)
  have k1 := (hb3.cell (p := ⟨w1.heap.size, 1, none⟩) (by simp; omega)).trans (alloc_cell hz2 f1 _)
  have j0 := (hb3.cell (p := ⟨w2.heap.size, 0, none⟩) (by simp)).trans (show (w2.alloc (.cells #[.int .i64 c, .int .i64 p] 25)).cell? ⟨w2.heap.size, 0, none⟩ = some (.int .i64 c) by simp [go_sem])
  have j1 := (hb3.cell (p := ⟨w2.heap.size, 1, none⟩) (by simp)).trans (show (w2.alloc (.cells #[.int .i64 c, .int .i64 p] 25)).cell? ⟨w2.heap.size, 1, none⟩ = some (.int .i64 p) by simp [go_sem])
  have hz3 : w2.heap.size < w3.heap.size := by have := hb3.size; simp at this; omega
  clear f0 f1
  go_wp2_with fail
  refine (fixed_any _).mono ?_
  rintro e w4 ⟨rfl, hb4⟩
  have l0 := (hb4.cell (p := ⟨w1.heap.size, 0, none⟩) (by simp; omega)).trans (alloc_cell (by omega) k0 _)
  have l1 := (hb4.cell (p := ⟨w1.heap.size, 1, none⟩) (by simp; omega)).trans (alloc_cell (by omega) k1 _)
  have i0 := (hb4.cell (p := ⟨w2.heap.size, 0, none⟩) (by simp; omega)).trans (alloc_cell hz3 j0 _)
  have i1 := (hb4.cell (p := ⟨w2.heap.size, 1, none⟩) (by simp; omega)).trans (alloc_cell hz3 j1 _)
  have hB3 : Below w3.heap.size w3 w4 := ((Below.refl _ w3).alloc (Nat.le_refl _) _).trans (hb4.mono (by simp))
  have hB2 : Below w2.heap.size w2 w4 := (((Below.refl _ w2).alloc (Nat.le_refl _) _).trans (hb3.mono (by simp))).trans (hB3.mono (by omega))
  have hB1 : Below w1.heap.size w1 w4 := (((Below.refl _ w1).alloc (Nat.le_refl _) _).trans (hb2.mono (by simp))).trans (hB2.mono (by omega))
  have hB0 : Below w.heap.size w w4 := hb1.trans (hB1.mono hb1.size)
  have P2 : w4.ownsRow w1.heap.size 36 4 (.slice a2 n c2) n (cellsT ts) := own_base (own_below ho2 hB2) (by simp)
  have P3 : w4.ownsRow w1.heap.size 48 4 (.slice a3 n c3) n (cellsT ts) := own_base (own_below ho3 hB3) (by simp; omega)
  have P1 : w4.ownsRow w.heap.size 36 4 (.slice a1 n c1) n (cellsT ts) := own_below ho1 hB1
  have hz1 := hb1.size
  have hg1 : Hid (∀ hn : n ≠ 0, ∃ g, a1 = some ⟨g, 0, none⟩ ∧ w.heap.size ≤ g ∧ g < w1.heap.size ∧ Fil g (n * 4) w4) := fun hn => by
    obtain ⟨g, cap, he, h1, h2, _, _⟩ := row_cells ho1 hn
    cases he
    exact ⟨g, rfl, h1, h2, (Fil.row ho1 (by rw [cellsT_len, HTN.out]) hn).keep (hB1.block g h2)⟩
  have hnm : n ≤ 9223372036854775807 := by
    rcases ho1.2 with ⟨_, h0⟩ | ⟨_, cap', _, h1, _, _, h2, h3, _⟩
    · omega
    · unfold maxLen at h3; omega
  have HP2 : Hid _ := P2
  have HP3 : Hid _ := P3
  clear P1 P2 P3 ho1 ho2 ho3 hB1 hB2 hB3 k0 k1 j0 j1 CS CR
  go_wp2_with fail
  go_loopg [9] (n + 1) (fun gf v9 wx => ∃ k : Nat, v9 = .int .i64 k ∧ k ≤ n ∧ Below w.heap.size w wx ∧ w4.heap.size = wx.heap.size ∧ Hid (∀ hn : n ≠ 0, ∃ g, a1 = some ⟨g, 0, none⟩ ∧ w.heap.size ≤ g ∧ g < w1.heap.size ∧ Fil g (n * 4) wx) ∧ Hid (wx.ownsRow w1.heap.size 36 4 (.slice a2 n c2) n (cellsT ts)) ∧ Hid (wx.ownsRow w1.heap.size 48 4 (.slice a3 n c3) n (cellsT ts)) ∧ n < k + gf)
  case atStart => exact ⟨0, rfl, by omega, hB0, rfl, hg1, HP2, HP3, by omega⟩
  case round =>
    obtain ⟨k, rfl, hkn, hB, hsz, hF, hP2, hP3, hfu⟩ := hrel
    by_cases hlt : k < n
    · obtain ⟨g2, rfl⟩ : ∃ g2, gk = g2 + 1 := ⟨gk - 1, by omega⟩
      obtain ⟨g, rfl, hga, hgb, fil⟩ := hF.out (by omega)
      obtain ⟨u0, m0⟩ := fil.cell (k * 4) (by omega)
      obtain ⟨u1, m1⟩ := fil.cell (k * 4 + 1) (by omega)
      obtain ⟨u2', m2⟩ := fil.cell (k * 4 + 2) (by omega)
      obtain ⟨u3, m3⟩ := fil.cell (k * 4 + 3) (by omega)
      have r0 := fil.free (k * 4) (by omega)
      have r1 := fil.free (k * 4 + 1) (by omega)
      have r2 := fil.free (k * 4 + 2) (by omega)
      have r3 := fil.free (k * 4 + 3) (by omega)
      have FF : Hid (Fil g (n * 4) wr) := fil
      clear fil hF hg1
      go_wp2_with fail
      go_roundg g2
      case measure => omega
      case rel => exact ⟨k + 1, by go_num, by omega, (((hB.setCell hga _).setCell hga _).setCell hga _).setCell hga _, by simp only [size_set]; exact hsz, fun _ => ⟨g, rfl, hga, hgb, (((FF.out.put _ _).put _ _).put _ _).put _ _⟩, ownsRow_setCell_below (ownsRow_setCell_below (ownsRow_setCell_below (ownsRow_setCell_below hP2.out hgb _) hgb _) hgb _) hgb _, ownsRow_setCell_below (ownsRow_setCell_below (ownsRow_setCell_below (ownsRow_setCell_below hP3.out hgb _) hgb _) hgb _) hgb _, by omega⟩
    · have C := same_any ts wr (.slice a2 n c2) (.slice a3 n c3) w1.heap.size w1.heap.size (by rw [HTN.out]; exact hP2.out) (by rw [HTN.out]; exact hP3.out)
      go_wp2_with (go_at_call 12; refine C.mono ?_; rintro e w5 ⟨rfl, hb5⟩)
      go_ret
      exact ⟨rfl, hB.trans (hb5.mono hB.size)⟩

theorem memory_walk (s : ByteArray) (w : World) (hs : s.size ≤ maxLen) : Calls Try.prog 7 #[.string s] w fun e w' => e = .returned (.bool true) ∧ Below w.heap.size w w' :=
  memory_full s w (by unfold maxLen at hs; omega) _ _ _ rfl

end Go.Proofs.Ytgjeiepcbenejaa
