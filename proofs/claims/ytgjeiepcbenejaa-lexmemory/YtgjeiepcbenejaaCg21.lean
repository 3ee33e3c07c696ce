/- The reference's Scan, whole; two lists of tokens held against one another. -/
import Derived.Test.YtgjeiepcbenejaaCg20
import Derived.Test.YtgjeiepcbenejaaCg14
import Derived.Deep.QuietTactic
import Derived.BigQuiet
namespace Go.Proofs.Ytgjeiepcbenejaa
open Go.RowKit

/-- The reference's Scan answers as the plain scanner does. -/
theorem rScan_any (s : ByteArray) (w : World) (hs : s.size ≤ 9223372036854775807) :
    Calls Try.prog 10 #[.string s] w fun e W' => ∃ v, e = .returned (.tuple #[v, .agg #[.int .i64 (scT s.data.toList).2.1, .int .i64 (scT s.data.toList).2.2]]) ∧ W'.ownsRow w.heap.size 48 4 v (scT s.data.toList).1.length (cellsT (scT s.data.toList).1) ∧ Below w.heap.size w W' := by
  by_cases hb : 20000 < s.size
  · refine (rScan_big s w hb hs).mono fun e W' ⟨he, hB⟩ => ?_
    have : scT s.data.toList = ([], 14, -1) := by unfold scT; rw [scT_len, if_pos hb]
    rw [this]
    exact ⟨_, he, World.ownsRow_nil _ _ _ _, hB⟩
  · refine (rScan_small s w (by omega) _ rfl).mono fun e W' ⟨v, ts, c, p, he, h1, h2, hB⟩ => ?_
    have hLD : LD s 0 = s.data.toList := by simp [LD]
    have : scT s.data.toList = (ts, c, p) := by
      unfold scT
      rw [scT_len, if_neg hb, h1, hLD]
      all_goals (cases scn s.data.toList 0 [] <;> rfl)
    rw [this]
    exact ⟨v, he, h2, hB⟩

end Go.Proofs.Ytgjeiepcbenejaa

/- Two lists of tokens held against one another. -/
namespace Go.Proofs.Ytgjeiepcbenejaa
open Go.RowKit

set_option maxRecDepth 20000 in
set_option maxHeartbeats 8000000 in
theorem same_full (ts : List Tok) (n : Nat) (HN : Hid (ts.length = n)) (w : World) (g g' cap cap' : Nat) (hg : g < w.heap.size) (hg' : g' < w.heap.size) (hnm : n ≤ 9223372036854775807)
    (h1 : Hid (∀ j u, (cellsT ts)[j]? = some u → w.cell? ⟨g, j, none⟩ = some u)) (h2 : Hid (∀ j u, (cellsT ts)[j]? = some u → w.cell? ⟨g', j, none⟩ = some u)) :
    Calls Try.prog 12 #[.slice (some ⟨g, 0, none⟩) n cap, .slice (some ⟨g', 0, none⟩) n cap'] w fun e W' => e = .returned (.bool true) ∧ Below w.heap.size w W' := by
  go_enter Try.func12, Try.ntmps12
  go_wp2
  go_loopg [5] (n + 1) (fun gf v5 wx => ∃ k : Nat, v5 = .int .i64 k ∧ Below w.heap.size w wx ∧ k ≤ n ∧ n < k + gf)
  case atStart => exact ⟨0, rfl, Below.refl _ _, by omega, by omega⟩
  case round =>
    obtain ⟨k, rfl, hB, hkn, hfu⟩ := hrel
    by_cases hlt : k < n
    · obtain ⟨g2, rfl⟩ : ∃ g2, gk = g2 + 1 := ⟨gk - 1, by omega⟩
      obtain ⟨t, ht⟩ : ∃ t, ts[k]? = some t := ⟨ts[k]'(by rw [HN.out]; exact hlt), by simp⟩
      have m0 := (hB.cell (p := ⟨g, k * 4, none⟩) hg).trans (h1.out _ _ ((cellsT_at ts k 0 t ht (by omega)).trans rfl))
      have m1 := (hB.cell (p := ⟨g, k * 4 + 1, none⟩) hg).trans (h1.out _ _ ((cellsT_at ts k 1 t ht (by omega)).trans rfl))
      have m2 := (hB.cell (p := ⟨g, k * 4 + 2, none⟩) hg).trans (h1.out _ _ ((cellsT_at ts k 2 t ht (by omega)).trans rfl))
      have m3 := (hB.cell (p := ⟨g, k * 4 + 3, none⟩) hg).trans (h1.out _ _ ((cellsT_at ts k 3 t ht (by omega)).trans rfl))
      have n0 := (hB.cell (p := ⟨g', k * 4, none⟩) hg').trans (h2.out _ _ ((cellsT_at ts k 0 t ht (by omega)).trans rfl))
      have n1 := (hB.cell (p := ⟨g', k * 4 + 1, none⟩) hg').trans (h2.out _ _ ((cellsT_at ts k 1 t ht (by omega)).trans rfl))
      have n2 := (hB.cell (p := ⟨g', k * 4 + 2, none⟩) hg').trans (h2.out _ _ ((cellsT_at ts k 2 t ht (by omega)).trans rfl))
      have n3 := (hB.cell (p := ⟨g', k * 4 + 3, none⟩) hg').trans (h2.out _ _ ((cellsT_at ts k 3 t ht (by omega)).trans rfl))
      obtain ⟨tk, tt, tv, tp⟩ := t
      simp only at m0 m1 m2 m3 n0 n1 n2 n3
      obtain ⟨X, hX⟩ : ∃ X : ByteArray, ⟨tt.toArray⟩ = X := ⟨_, rfl⟩
      rw [hX] at m1 n1
      clear ht hX
      go_wp2_with fail
      go_quiet (fail)
      go_wp2
      go_roundg g2
      case measure => omega
      case rel => exact ⟨k + 1, by go_num, hB.trans (bdrewN _ _ _), by omega, by omega⟩
    · go_wp2
      go_ret
      exact ⟨rfl, hB⟩

end Go.Proofs.Ytgjeiepcbenejaa

/- The walk of LexScans. -/
namespace Go.Proofs.Ytgjeiepcbenejaa
open Go.RowKit

set_option maxRecDepth 20000 in
set_option maxHeartbeats 2000000 in
theorem same_none (a b : Option Addr) (c d : Nat) (w : World) : Calls Try.prog 12 #[.slice a 0 c, .slice b 0 d] w fun e W' => e = .returned (.bool true) ∧ Below w.heap.size w W' := by
  go_enter Try.func12, Try.ntmps12
  go_wp2
  go_loopg [5] 1 (fun gf v5 wx => v5 = .int .i64 0 ∧ wx = w)
  case atStart => exact ⟨rfl, rfl⟩
  case round =>
    obtain ⟨rfl, rfl⟩ := hrel
    go_wp2
    go_ret
    exact ⟨rfl, Below.refl _ _⟩

theorem same_any (ts : List Tok) (w : World) (v v' : Value) (b b' : Nat) (h1 : w.ownsRow b 36 4 v ts.length (cellsT ts)) (h2 : w.ownsRow b' 48 4 v' ts.length (cellsT ts)) :
    Calls Try.prog 12 #[v, v'] w fun e W' => e = .returned (.bool true) ∧ Below w.heap.size w W' := by
  by_cases hz : ts.length = 0
  · rw [hz] at h1 h2
    obtain ⟨a, c, rfl⟩ := slice_shape h1
    obtain ⟨a', c', rfl⟩ := slice_shape h2
    exact same_none a a' c c' w
  · have hnm : ts.length ≤ 9223372036854775807 := by
      rcases h1.2 with ⟨_, h0⟩ | ⟨_, cap', _, h1, _, _, h2, h3, _⟩
      · omega
      · unfold maxLen at h3; omega
    obtain ⟨g, cap, rfl, _, hg, _, hc⟩ := row_cells h1 hz
    obtain ⟨g', cap', rfl, _, hg', _, hc'⟩ := row_cells h2 hz
    exact same_full ts _ rfl w g g' cap cap' hg hg' hnm hc hc'

set_option maxRecDepth 20000 in
set_option maxHeartbeats 4000000 in
theorem scans_walk (s : ByteArray) (w : World) (hs : s.size ≤ maxLen) : Calls Try.prog 3 #[.string s] w fun e w' => e = .returned (.bool true) ∧ Below w.heap.size w w' := by
  have hs' : s.size ≤ 9223372036854775807 := by unfold maxLen at hs; omega
  have CS := fun w => Scan_any s w hs'
  have CR := fun w => rScan_any s w hs'
  obtain ⟨R, hR⟩ : ∃ R, scT s.data.toList = R := ⟨_, rfl⟩
  rw [hR] at CS CR
  obtain ⟨ts, c, p⟩ := R
  simp only at CS CR
  clear hR
  have hq1 := fun W => eql25 c p c p W
  simp only [and_self, decide_true] at hq1
  have g25 := guard25
  go_enter Try.func3, Try.ntmps3
  go_wp2_with (first
    | (go_at_call 9; refine (CS _).mono ?_; rintro e w1 ⟨v1, rfl, ho1, hb1⟩)
    | (go_at_call 10; refine (CR _).mono ?_; rintro e w2 ⟨v2, rfl, ho2, hb2⟩; have f0 := (hb2.cell (p := ⟨w1.heap.size, 0, none⟩) (by simp)).trans (show (w1.alloc (.cells #[.int .i64 c, .int .i64 p] 25)).cell? ⟨w1.heap.size, 0, none⟩ = some (.int .i64 c) by simp [go_sem]); have f1 := (hb2.cell (p := ⟨w1.heap.size, 1, none⟩) (by simp)).trans (show (w1.alloc (.cells #[.int .i64 c, .int .i64 p] 25)).cell? ⟨w1.heap.size, 1, none⟩ = some (.int .i64 p) by simp [go_sem]); have hz2 : w1.heap.size < w2.heap.size := by have := hb2.size; simp at this; omega)
    | (go_at_call 11; refine (fixed_any _).mono ?_; rintro e w3 ⟨rfl, hb3⟩; have k0 := (hb3.cell (p := ⟨w1.heap.size, 0, none⟩) (by simp; omega)).trans (alloc_cell hz2 f0 _); have k1 := (hb3.cell (p := ⟨w1.heap.size, 1, none⟩) (by simp; omega)).trans (alloc_cell hz2 f1 _); have j0 := (hb3.cell (p := ⟨w2.heap.size, 0, none⟩) (by simp)).trans (show (w2.alloc (.cells #[.int .i64 c, .int .i64 p] 25)).cell? ⟨w2.heap.size, 0, none⟩ = some (.int .i64 c) by simp [go_sem]); have j1 := (hb3.cell (p := ⟨w2.heap.size, 1, none⟩) (by simp)).trans (show (w2.alloc (.cells #[.int .i64 c, .int .i64 p] 25)).cell? ⟨w2.heap.size, 1, none⟩ = some (.int .i64 p) by simp [go_sem]); have hB2 : Below w2.heap.size w2 w3 := ((Below.refl _ w2).alloc (Nat.le_refl _) _).trans (hb3.mono (by simp)); have hB1 : Below w1.heap.size w1 w3 := (((Below.refl _ w1).alloc (Nat.le_refl _) _).trans (hb2.mono (by simp))).trans (hB2.mono (by omega)))
    | (go_at_call 12; refine (same_any ts _ v1 v2 _ _ (own_below ho1 hB1) (own_below ho2 hB2)).mono ?_; rintro e w4 ⟨rfl, hb4⟩))
  go_ret
  exact ⟨rfl, (hb1.trans (hB1.mono hb1.size)).trans (hb4.mono (by have := hb1.size; have := hB1.size; omega))⟩

end Go.Proofs.Ytgjeiepcbenejaa
