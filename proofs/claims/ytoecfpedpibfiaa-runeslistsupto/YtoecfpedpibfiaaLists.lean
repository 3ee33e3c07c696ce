/- The walk of RunesLists. -/
import Derived.Test.YtoecfpedpibfiaaRturn
import Derived.Deep.QuietTactic
import Derived.BigQuiet
namespace Go.Proofs.Ytoecfpedpibfiaa
open Go.RowKit

set_option maxHeartbeats 4000000 in
theorem lists_core (s R : ByteArray) (L : List Rn) (bad : Int) (w : World) (hlen : L.length ≤ 1048576)
    (C10 : ∀ W, Calls Try.prog 10 #[.string s] W fun e W' => ∃ v, e = .returned v ∧ W'.ownsRow W.heap.size 30 3 v L.length (cellsOf L) ∧ Below W.heap.size W W')
    (C11 : ∀ W, Calls Try.prog 11 #[.string s] W fun e W' => ∃ v, e = .returned v ∧ W'.ownsRow W.heap.size 31 3 v L.length (cellsOf L) ∧ Below W.heap.size W W')
    (C12 : ∀ W, Calls Try.prog 12 #[.string s] W fun e W' => e = .returned (.int .i64 L.length) ∧ Below W.heap.size W W')
    (C13 : ∀ W, Calls Try.prog 13 #[.string s] W fun e W' => e = .returned (.int .i64 bad) ∧ Below W.heap.size W W')
    (C14 : ∀ W, Calls Try.prog 14 #[.string s] W fun e W' => e = .returned (.int .i64 bad) ∧ Below W.heap.size W W')
    (C15 : ∀ W, Calls Try.prog 15 #[.string s] W fun e W' => e = .returned (.string R) ∧ Below W.heap.size W W')
    (C16 : ∀ W, Calls Try.prog 16 #[.string s] W fun e W' => e = .returned (.string R) ∧ Below W.heap.size W W') :
    Calls Try.prog 3 #[.string s] w fun e w' => e = .returned (.bool true) ∧ Below w.heap.size w w' := by
  have C9 := fixed_any
  go_enter Try.func3, Try.ntmps3
  go_wp2_with (first
    | (go_at_call 9; refine (C9 _).mono ?_; rintro e w1 ⟨rfl, b1⟩)
    | (go_at_call 10; refine (C10 _).mono ?_; rintro e w2 ⟨v, rfl, o2, b2⟩; obtain ⟨a2, c2, rfl⟩ := slice_shape o2)
    | (go_at_call 11; refine (C11 _).mono ?_; rintro e w3 ⟨v, rfl, o3, b3⟩; obtain ⟨a3, c3, rfl⟩ := slice_shape o3)
    | (go_at_call 12; refine (C12 _).mono ?_; rintro e w4 ⟨rfl, b4⟩)
    | (go_at_call 13; refine (C13 _).mono ?_; rintro e w5 ⟨rfl, b5⟩)
    | (go_at_call 14; refine (C14 _).mono ?_; rintro e w6 ⟨rfl, b6⟩)
    | (go_at_call 15; refine (C15 _).mono ?_; rintro e w7 ⟨rfl, b7⟩)
    | (go_at_call 16; refine (C16 _).mono ?_; rintro e w8 ⟨rfl, b8⟩))
  have bb := bel_on (bel_on (bel_on (bel_on (bel_on b3 b4) b5) b6) b7) b8
  have o2' := own_below o2 bb
  have o3' := own_below o3 (bel_on (bel_on (bel_on (bel_on b4 b5) b6) b7) b8)
  have bw := bel_on (bel_on b1 b2) bb
  clear o2 o3 b1 b2 b3 b4 b5 b6 b7 b8 bb C9 C10 C11 C12 C13 C14 C15 C16
  go_loopw [5] (fun i wr => ∃ k : Nat, k ≤ L.length ∧ i = .int .i64 k ∧ Below w8.heap.size w8 wr) (fun i _ => L.length - (intOf i).toNat)
  case atStart => exact ⟨0, by omega, rfl, Below.refl _ _⟩
  case round =>
    obtain ⟨k, hk, rfl, hbr⟩ := hrel
    by_cases hlt : k < L.length
    · have p2 := own_below o2' hbr
      have p3 := own_below o3' hbr
      obtain ⟨g, cap, hv, hg, hg2, hcap, hcell⟩ := row_cells p2 (by omega)
      simp only [Value.slice.injEq] at hv
      obtain ⟨rfl, _, rfl⟩ := hv
      obtain ⟨g', cap', hv', hg', hg2', hcap', hcell'⟩ := row_cells p3 (by omega)
      simp only [Value.slice.injEq] at hv'
      obtain ⟨rfl, _, rfl⟩ := hv'
      have hlt' : (k : Int) < (L.length : Int) := by omega
      obtain ⟨q1, q2, q3⟩ := cells_get L k hlt
      have d1 := hcell _ _ q1
      have d2 := hcell _ _ q2
      have d3 := hcell _ _ q3
      have f1 := hcell' _ _ q1
      have f2 := hcell' _ _ q2
      have f3 := hcell' _ _ q3
      obtain ⟨r, hr⟩ : ∃ r, L[k] = r := ⟨_, rfl⟩
      rw [hr] at d1 d2 d3 f1 f2 f3
      obtain ⟨X, hX⟩ : ∃ X : Int, (r.1 : Int) = X := ⟨_, rfl⟩
      obtain ⟨Y, hY⟩ : ∃ Y : Int, (r.2.1 : Int) = Y := ⟨_, rfl⟩
      obtain ⟨Z, hZ⟩ : ∃ Z : Int, (r.2.2 : Int) = Z := ⟨_, rfl⟩
      rw [hX] at d1 f1
      rw [hY] at d2 f2
      rw [hZ] at d3 f3
      clear hcell hcell' q1 q2 q3 hr hX hY hZ p2 p3 o2' o3'
      go_wp2
      go_quiet (fail)
      go_wp2
      go_roundw
      case rel => exact ⟨k + 1, by omega, by go_num, below_drewN hbr _⟩
      case measure => simp [intOf]; omega
    · have hlt' : ¬ (k : Int) < (L.length : Int) := by omega
      clear o2' o3'
      go_wp2
      go_ret
      exact ⟨rfl, bel_on bw hbr⟩

theorem lists_walk (s : ByteArray) (w : World) (hs : s.size ≤ 1048576) : Calls Try.prog 3 #[.string s] w fun e w' => e = .returned (.bool true) ∧ Below w.heap.size w w' :=
  lists_core s _ (rest s 0) _ w (by have := rest_len s 0; omega) (fun W => list_any s W hs) (fun W => rlist_any s W hs) (fun W => count_any s W (by omega)) (fun W => bad_any s W (by omega)) (fun W => rbad_any s W hs) (fun W => turned_any s W hs) (fun W => rturn_any s W hs)

#print axioms lists_walk
end Go.Proofs.Ytoecfpedpibfiaa
