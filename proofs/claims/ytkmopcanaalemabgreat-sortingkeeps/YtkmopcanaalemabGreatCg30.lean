/- The walk of part. -/
import Derived.Test.YtkmopcanaalemabGreatCg26
import Derived.Test.YtkmopcanaalemabGreatCg27
import Derived.BigRegion
import Derived.Deep.DeepCutAuto
import Derived.Test.YtkmopcanaalemabGreatCg29
namespace Go.Proofs.YtkmopcanaalemabGreat
open Go.RowKit

theorem part_any {No : Nat → Prop} {w : World} {B : Nat} {wv : Value} {T A b a S hb c : Nat} {d : SD} (h : So No w B wv T A b a S hb c d) (hc : c ≤ 500000) (b1 : -2305843009213693952 ≤ d.1.lo) (b2 : d.1.lo ≤ 2305843009213693952) (b3 : -2305843009213693952 ≤ d.1.up) (b4 : d.1.up ≤ 2305843009213693952) (b7 : -2305843009213693952 ≤ d.1.i) (b8 : d.1.i ≤ 2305843009213693952) (hwl : d.1.wt.length ≤ 900000) (hr : ∀ r ∈ d.1.wt, r.1 < r.2 → -4611686018427387904 ≤ r.1 ∧ r.2 ≤ 4611686018427387904) :
    Calls Tryz.prog 105 #[.pointer (some ⟨B, 0, none⟩)] w (GP No w B T S hb (c + 18) (partR d)) := by
  by_cases hcd : d.1.up - d.1.i ≤ d.1.i - d.1.lo
  · exact part_le h hc b1 b2 b3 b4 b7 b8 hwl hr hcd
  · exact part_gt h hc b1 b2 b3 b4 b7 b8 hwl hr hcd
end Go.Proofs.YtkmopcanaalemabGreat

/- The walk of afterFalling. -/
namespace Go.Proofs.YtkmopcanaalemabGreat
open Go.RowKit

theorem falling_no {d : SD} (h : ¬ d.1.j < d.1.i) : fallingR d false = if putE d d.1.i d.1.y d.1.j d.1.x ≠ 0 then (endD (d.1, (putD d d.1.i d.1.y d.1.j d.1.x).2) (putE d d.1.i d.1.y d.1.j d.1.x), endT (putE d d.1.i d.1.y d.1.j d.1.x)) else riseR (d.1, (putD d d.1.i d.1.y d.1.j d.1.x).2) := by
  have e0 : fallingR d false = if putE d d.1.i d.1.y d.1.j d.1.x ≠ 0 then (endD (putD d d.1.i d.1.y d.1.j d.1.x) (putE d d.1.i d.1.y d.1.j d.1.x), endT (putE d d.1.i d.1.y d.1.j d.1.x)) else riseR (putD d d.1.i d.1.y d.1.j d.1.x) := by unfold fallingR; rw [if_neg (by simp), if_neg h]
  rw [e0, ← putD_eta]
set_option maxRecDepth 20000 in
set_option maxHeartbeats 4000000 in
theorem falling_e {No : Nat → Prop} {w : World} {B : Nat} {wv : Value} {T A b a S hb c : Nat} {d : SD} (h : So No w B wv T A b a S hb c d) (hj : d.1.j < d.1.i) :
    Calls Tryz.prog 62 #[.pointer (some ⟨B, 0, none⟩), .bool true] w (GP No w B T S hb (c + 31) (fallingR d true)) := by
  obtain ⟨N2, s0, HF0⟩ := h.tell2
  have HF : Hid _ := HF0
  obtain ⟨W0, hW0⟩ : ∃ W0, w.alloc z8 = W0 := ⟨_, rfl⟩
  rw [hW0] at HF s0
  unfold z8 at hW0
  clear HF0
  have a1 : W0.cell? ⟨B, 1, none⟩ = some (.int .i64 d.1.lo) := s0.so.cell (j := 1) rfl
  have a2 : W0.cell? ⟨B, 2, none⟩ = some (.int .i64 d.1.up) := s0.so.cell (j := 2) rfl
  have a5 : W0.cell? ⟨B, 5, none⟩ = some (.int .i64 d.1.p) := s0.so.cell (j := 5) rfl
  have a6 : W0.cell? ⟨B, 6, none⟩ = some (.int .i64 d.1.i) := s0.so.cell (j := 6) rfl
  have a7 : W0.cell? ⟨B, 7, none⟩ = some (.int .i64 d.1.j) := s0.so.cell (j := 7) rfl
  have C := fun m => (s0.drewN m).en0 (bself _) 15
  obtain ⟨R, hR⟩ : ∃ R, fallingR d true = R := ⟨_, rfl⟩
  have eR : (endD d 15, endT 15) = R := by rw [← hR]; unfold fallingR; rw [if_pos rfl, if_pos hj]
  rw [hR]
  rw [eR] at C
  unfold GP
  clear h s0 hR eR
  go_enter Tryz.func62, Tryz.ntmps62
  go_wp2_with fail
  go_quiet (fail)
  go_wp2_with fail
  refine (C _).mono ?_
  rintro e w4 ⟨rfl, wv4, A4, b4, a4, s4⟩
  obtain ⟨r4, r5, s5, k5⟩ := HF.out w4 wv4 A4 b4 a4 _ _ R.2 s4
  have HZ : Hid (_ ∧ _ ∧ _) := ⟨r5, s5, k5⟩
  obtain ⟨tl, htl⟩ : ∃ tl, R.2 = tl := ⟨_, rfl⟩
  rw [htl] at HZ ⊢
  obtain ⟨W5, hW5⟩ : ∃ W5, set8 w4 w.heap.size tl = W5 := ⟨_, rfl⟩
  rw [hW5] at HZ
  unfold set8 at hW5
  unfold tolV
  obtain ⟨n0, n1, n2, n3, n4, n5, n6, n7⟩ := r4.eight
  simp only [nil] at n0 n1 n2 n3 n4 n5 n6 n7
  have nf := fun j => r4.free j
  clear r4 r5 s5 k5 s4 HF C
  go_wp2
  obtain ⟨q1, q2, q3⟩ := HZ.out
  obtain ⟨r0, r1, r2, r3, r4, r5, r6, r7⟩ := q1.eight
  exact bodyPost_ret (v := tolV tl) (by simp [results, Tryz.results62, go_sem, r0, r1, r2, r3, r4, r5, r6, r7, tolV]) rfl ⟨by first | rfl | rw [htl], ⟨_, _, _, _, q2.more (by omega)⟩, q3⟩
set_option maxRecDepth 20000 in
set_option maxHeartbeats 4000000 in
theorem falling_f {No : Nat → Prop} {w : World} {B : Nat} {wv : Value} {T A b a S hb c : Nat} {d : SD} (h : So No w B wv T A b a S hb c d) (hc : c ≤ 400000) (b9 : -2305843009213693952 ≤ d.1.j) (b10 : d.1.j ≤ 2305843009213693952) (hj : ¬ d.1.j < d.1.i) :
    Calls Tryz.prog 62 #[.pointer (some ⟨B, 0, none⟩), .bool true] w (GP No w B T S hb (c + 31) (fallingR d true)) := by
  obtain ⟨N2, s0, HF0⟩ := h.tell2
  have HF : Hid _ := HF0
  obtain ⟨W0, hW0⟩ : ∃ W0, w.alloc z8 = W0 := ⟨_, rfl⟩
  rw [hW0] at HF s0
  unfold z8 at hW0
  clear HF0
  have a1 : W0.cell? ⟨B, 1, none⟩ = some (.int .i64 d.1.lo) := s0.so.cell (j := 1) rfl
  have a2 : W0.cell? ⟨B, 2, none⟩ = some (.int .i64 d.1.up) := s0.so.cell (j := 2) rfl
  have a5 : W0.cell? ⟨B, 5, none⟩ = some (.int .i64 d.1.p) := s0.so.cell (j := 5) rfl
  have a6 : W0.cell? ⟨B, 6, none⟩ = some (.int .i64 d.1.i) := s0.so.cell (j := 6) rfl
  have a7 : W0.cell? ⟨B, 7, none⟩ = some (.int .i64 d.1.j) := s0.so.cell (j := 7) rfl
  have C := fun m => (s0.drewN m).of0 (f := 103) (xs := #[.pointer (some ⟨B, 0, none⟩)]) (bself _) (fun q => fall_gp q (by omega) (by omega) (by omega))
  obtain ⟨R, hR⟩ : ∃ R, fallingR d true = R := ⟨_, rfl⟩
  have eR : fallR d = R := by rw [← hR]; unfold fallingR; rw [if_pos rfl, if_neg hj]
  rw [hR]
  rw [eR] at C
  unfold GP
  clear h s0 hR eR
  go_enter Tryz.func62, Tryz.ntmps62
  go_wp2_with fail
  go_quiet (fail)
  go_wp2_with fail
  refine (C _).mono ?_
  rintro e w4 ⟨rfl, wv4, A4, b4, a4, s4⟩
  obtain ⟨r4, r5, s5, k5⟩ := HF.out w4 wv4 A4 b4 a4 _ _ R.2 s4
  have HZ : Hid (_ ∧ _ ∧ _) := ⟨r5, s5, k5⟩
  obtain ⟨tl, htl⟩ : ∃ tl, R.2 = tl := ⟨_, rfl⟩
  rw [htl] at HZ ⊢
  obtain ⟨W5, hW5⟩ : ∃ W5, set8 w4 w.heap.size tl = W5 := ⟨_, rfl⟩
  rw [hW5] at HZ
  unfold set8 at hW5
  unfold tolV
  obtain ⟨n0, n1, n2, n3, n4, n5, n6, n7⟩ := r4.eight
  simp only [nil] at n0 n1 n2 n3 n4 n5 n6 n7
  have nf := fun j => r4.free j
  clear r4 r5 s5 k5 s4 HF C
  go_wp2
  obtain ⟨q1, q2, q3⟩ := HZ.out
  obtain ⟨r0, r1, r2, r3, r4, r5, r6, r7⟩ := q1.eight
  exact bodyPost_ret (v := tolV tl) (by simp [results, Tryz.results62, go_sem, r0, r1, r2, r3, r4, r5, r6, r7, tolV]) rfl ⟨by first | rfl | rw [htl], ⟨_, _, _, _, q2.more (by omega)⟩, q3⟩
set_option maxRecDepth 20000 in
set_option maxHeartbeats 4000000 in
theorem falling_p {No : Nat → Prop} {w : World} {B : Nat} {wv : Value} {T A b a S hb c : Nat} {d : SD} (h : So No w B wv T A b a S hb c d) (hc : c ≤ 400000) (b1 : -2305843009213693952 ≤ d.1.lo) (b2 : d.1.lo ≤ 2305843009213693952) (b3 : -2305843009213693952 ≤ d.1.up) (b4 : d.1.up ≤ 2305843009213693952) (b7 : -2305843009213693952 ≤ d.1.i) (b8 : d.1.i ≤ 2305843009213693952) (hwl : d.1.wt.length ≤ 900000) (hr : ∀ r ∈ d.1.wt, r.1 < r.2 → -4611686018427387904 ≤ r.1 ∧ r.2 ≤ 4611686018427387904) (hj : d.1.j < d.1.i) :
    Calls Tryz.prog 62 #[.pointer (some ⟨B, 0, none⟩), .bool false] w (GP No w B T S hb (c + 31) (fallingR d false)) := by
  obtain ⟨N2, s0, HF0⟩ := h.tell2
  have HF : Hid _ := HF0
  obtain ⟨W0, hW0⟩ : ∃ W0, w.alloc z8 = W0 := ⟨_, rfl⟩
  rw [hW0] at HF s0
  unfold z8 at hW0
  clear HF0
  have a1 : W0.cell? ⟨B, 1, none⟩ = some (.int .i64 d.1.lo) := s0.so.cell (j := 1) rfl
  have a2 : W0.cell? ⟨B, 2, none⟩ = some (.int .i64 d.1.up) := s0.so.cell (j := 2) rfl
  have a5 : W0.cell? ⟨B, 5, none⟩ = some (.int .i64 d.1.p) := s0.so.cell (j := 5) rfl
  have a6 : W0.cell? ⟨B, 6, none⟩ = some (.int .i64 d.1.i) := s0.so.cell (j := 6) rfl
  have a7 : W0.cell? ⟨B, 7, none⟩ = some (.int .i64 d.1.j) := s0.so.cell (j := 7) rfl
  have C := fun m => (s0.drewN m).of0 (f := 105) (xs := #[.pointer (some ⟨B, 0, none⟩)]) (bself _) (fun q => part_any q (by omega) b1 b2 b3 b4 b7 b8 hwl hr)
  obtain ⟨R, hR⟩ : ∃ R, fallingR d false = R := ⟨_, rfl⟩
  have eR : partR d = R := by rw [← hR]; unfold fallingR; rw [if_neg (by simp), if_pos hj]
  rw [hR]
  rw [eR] at C
  unfold GP
  clear h s0 hR eR hr
  go_enter Tryz.func62, Tryz.ntmps62
  go_wp2_with fail
  go_quiet (fail)
  go_wp2_with fail
  go_quiet (fail)
  go_wp2_with fail
  refine (C _).mono ?_
  rintro e w4 ⟨rfl, wv4, A4, b4, a4, s4⟩
  obtain ⟨r4, r5, s5, k5⟩ := HF.out w4 wv4 A4 b4 a4 _ _ R.2 s4
  have HZ : Hid (_ ∧ _ ∧ _) := ⟨r5, s5, k5⟩
  obtain ⟨tl, htl⟩ : ∃ tl, R.2 = tl := ⟨_, rfl⟩
  rw [htl] at HZ ⊢
  obtain ⟨W5, hW5⟩ : ∃ W5, set8 w4 w.heap.size tl = W5 := ⟨_, rfl⟩
  rw [hW5] at HZ
  unfold set8 at hW5
  unfold tolV
  obtain ⟨n0, n1, n2, n3, n4, n5, n6, n7⟩ := r4.eight
  simp only [nil] at n0 n1 n2 n3 n4 n5 n6 n7
  have nf := fun j => r4.free j
  clear r4 r5 s5 k5 s4 HF C
  go_wp2
  obtain ⟨q1, q2, q3⟩ := HZ.out
  obtain ⟨r0, r1, r2, r3, r4, r5, r6, r7⟩ := q1.eight
  exact bodyPost_ret (v := tolV tl) (by simp [results, Tryz.results62, go_sem, r0, r1, r2, r3, r4, r5, r6, r7, tolV]) rfl ⟨by first | rfl | rw [htl], ⟨_, _, _, _, q2.more (by omega)⟩, q3⟩
set_option maxRecDepth 20000 in
set_option maxHeartbeats 4000000 in
theorem falling_r {No : Nat → Prop} {w : World} {B : Nat} {wv : Value} {T A b a S hb c : Nat} {d : SD} (h : So No w B wv T A b a S hb c d) (hc : c ≤ 400000) (b7 : -2305843009213693952 ≤ d.1.i) (b8 : d.1.i ≤ 2305843009213693952) (b9 : -2305843009213693952 ≤ d.1.j) (b10 : d.1.j ≤ 2305843009213693952) (hj : ¬ d.1.j < d.1.i) :
    Calls Tryz.prog 62 #[.pointer (some ⟨B, 0, none⟩), .bool false] w (GP No w B T S hb (c + 31) (fallingR d false)) := by
  obtain ⟨N2, s0, HF0⟩ := h.tell2
  have HF : Hid _ := HF0
  obtain ⟨W0, hW0⟩ : ∃ W0, w.alloc z8 = W0 := ⟨_, rfl⟩
  rw [hW0] at HF s0
  unfold z8 at hW0
  clear HF0
  have a1 : W0.cell? ⟨B, 1, none⟩ = some (.int .i64 d.1.lo) := s0.so.cell (j := 1) rfl
  have a2 : W0.cell? ⟨B, 2, none⟩ = some (.int .i64 d.1.up) := s0.so.cell (j := 2) rfl
  have a5 : W0.cell? ⟨B, 5, none⟩ = some (.int .i64 d.1.p) := s0.so.cell (j := 5) rfl
  have a6 : W0.cell? ⟨B, 6, none⟩ = some (.int .i64 d.1.i) := s0.so.cell (j := 6) rfl
  have a7 : W0.cell? ⟨B, 7, none⟩ = some (.int .i64 d.1.j) := s0.so.cell (j := 7) rfl
  have a8 : W0.cell? ⟨B, 8, none⟩ = some (.int .i64 d.1.x.1) := s0.so.cell (j := 8) rfl
  have a9 : W0.cell? ⟨B, 9, none⟩ = some (.int .i64 d.1.x.2.1) := s0.so.cell (j := 9) rfl
  have a10 : W0.cell? ⟨B, 10, none⟩ = some (.string d.1.x.2.2) := s0.so.cell (j := 10) rfl
  have a11 : W0.cell? ⟨B, 11, none⟩ = some (.int .i64 d.1.y.1) := s0.so.cell (j := 11) rfl
  have a12 : W0.cell? ⟨B, 12, none⟩ = some (.int .i64 d.1.y.2.1) := s0.so.cell (j := 12) rfl
  have a13 : W0.cell? ⟨B, 13, none⟩ = some (.string d.1.y.2.2) := s0.so.cell (j := 13) rfl
  have a14 : W0.cell? ⟨B, 14, none⟩ = some (.int .i64 d.1.pv.1) := s0.so.cell (j := 14) rfl
  have a15 : W0.cell? ⟨B, 15, none⟩ = some (.int .i64 d.1.pv.2.1) := s0.so.cell (j := 15) rfl
  have a16 : W0.cell? ⟨B, 16, none⟩ = some (.string d.1.pv.2.2) := s0.so.cell (j := 16) rfl
  obtain ⟨R, hR⟩ : ∃ R, fallingR d false = R := ⟨_, rfl⟩
  rw [hR]
  unfold GP
  rw [falling_no hj] at hR
  have C5 := fun m => s0.pu0 (w' := W0.drewN m) (bdrewN W0 m) (by omega) (d.1.i) (d.1.j) d.1.y d.1.x (by omega) (by omega) (by omega) (by omega)
  obtain ⟨E, hE⟩ : ∃ E, putE (d) (d.1.i) (d.1.y) (d.1.j) (d.1.x) = E := ⟨_, rfl⟩
  obtain ⟨P2, hP2⟩ : ∃ P2, (putD (d) (d.1.i) (d.1.y) (d.1.j) (d.1.x)).2 = P2 := ⟨_, rfl⟩
  rw [hE, hP2] at C5 hR
  clear hE hP2 h
  by_cases hE0 : E = 0
  · subst hE0
    rw [if_neg (by simp)] at hR
    have HR : Hid (_ = R) := hR
    clear hR
    go_enter Tryz.func62, Tryz.ntmps62
    go_wp2_with fail
    go_quiet (fail)
    go_wp2_with fail
    go_quiet (fail)
    go_wp2_with fail
    refine wp_tail 17 (by kernel_rfl) (by kernel_rfl) ?_
    simp only [List.take_succ_cons, List.take_zero, List.drop_succ_cons, List.drop_zero]
    repeat still_step
    refine wpStill_nil ?_
    go_wp2_with fail
    refine (C5 _).mono ?_
    rintro e w5 ⟨rfl, A5, B5, D5, k5⟩
    have C8 := k5.of0 (f := 104) (xs := #[.pointer (some ⟨B, 0, none⟩)]) (bself w5) (fun q => rise_gp q (by omega) (by simp only; omega) (by simp only; omega))
    rw [HR.out] at C8
    clear HR k5 C5
    go_wp2_with fail
    refine (C8).mono ?_
    rintro e w4 ⟨rfl, wv4, A4, b4, a4, s4⟩
    obtain ⟨r4, r5, s5, k5⟩ := HF.out w4 wv4 A4 b4 a4 _ _ R.2 s4
    have HZ : Hid (_ ∧ _ ∧ _) := ⟨r5, s5, k5⟩
    obtain ⟨tl, htl⟩ : ∃ tl, R.2 = tl := ⟨_, rfl⟩
    rw [htl] at HZ ⊢
    obtain ⟨W5, hW5⟩ : ∃ W5, set8 w4 w.heap.size tl = W5 := ⟨_, rfl⟩
    rw [hW5] at HZ
    unfold set8 at hW5
    unfold tolV
    obtain ⟨n0, n1, n2, n3, n4, n5, n6, n7⟩ := r4.eight
    simp only [nil] at n0 n1 n2 n3 n4 n5 n6 n7
    have nf := fun j => r4.free j
    clear r4 r5 s5 k5 s4 HF C8
    go_wp2
    obtain ⟨q1, q2, q3⟩ := HZ.out
    obtain ⟨r0, r1, r2, r3, r4, r5, r6, r7⟩ := q1.eight
    exact bodyPost_ret (v := tolV tl) (by simp [results, Tryz.results62, go_sem, r0, r1, r2, r3, r4, r5, r6, r7, tolV]) rfl ⟨by first | rfl | rw [htl], ⟨_, _, _, _, q2.more (by omega)⟩, q3⟩
  · have hE' : (E != 0) = true := by simpa using hE0
    rw [if_pos hE0] at hR
    have HR : Hid (_ = R) := hR
    clear hR
    go_enter Tryz.func62, Tryz.ntmps62
    go_wp2_with fail
    go_quiet (fail)
    go_wp2_with fail
    go_quiet (fail)
    go_wp2_with fail
    refine wp_tail 17 (by kernel_rfl) (by kernel_rfl) ?_
    simp only [List.take_succ_cons, List.take_zero, List.drop_succ_cons, List.drop_zero]
    repeat still_step
    refine wpStill_nil ?_
    go_wp2_with fail
    refine (C5 _).mono ?_
    rintro e w5 ⟨rfl, A5, B5, D5, k5⟩
    have C8 := k5.en0 (bself w5) E
    rw [HR.out] at C8
    clear HR k5 C5 hE0
    go_wp2_with fail
    refine (C8).mono ?_
    rintro e w4 ⟨rfl, wv4, A4, b4, a4, s4⟩
    obtain ⟨r4, r5, s5, k5⟩ := HF.out w4 wv4 A4 b4 a4 _ _ R.2 s4
    have HZ : Hid (_ ∧ _ ∧ _) := ⟨r5, s5, k5⟩
    obtain ⟨tl, htl⟩ : ∃ tl, R.2 = tl := ⟨_, rfl⟩
    rw [htl] at HZ ⊢
    obtain ⟨W5, hW5⟩ : ∃ W5, set8 w4 w.heap.size tl = W5 := ⟨_, rfl⟩
    rw [hW5] at HZ
    unfold set8 at hW5
    unfold tolV
    obtain ⟨n0, n1, n2, n3, n4, n5, n6, n7⟩ := r4.eight
    simp only [nil] at n0 n1 n2 n3 n4 n5 n6 n7
    have nf := fun j => r4.free j
    clear r4 r5 s5 k5 s4 HF C8
    go_wp2
    obtain ⟨q1, q2, q3⟩ := HZ.out
    obtain ⟨r0, r1, r2, r3, r4, r5, r6, r7⟩ := q1.eight
    exact bodyPost_ret (v := tolV tl) (by simp [results, Tryz.results62, go_sem, r0, r1, r2, r3, r4, r5, r6, r7, tolV]) rfl ⟨by first | rfl | rw [htl], ⟨_, _, _, _, q2.more (by omega)⟩, q3⟩
theorem falling_any {No : Nat → Prop} {w : World} {B : Nat} {wv : Value} {T A b a S hb c : Nat} {d : SD} (h : So No w B wv T A b a S hb c d) (hc : c ≤ 400000) (b1 : -2305843009213693952 ≤ d.1.lo) (b2 : d.1.lo ≤ 2305843009213693952) (b3 : -2305843009213693952 ≤ d.1.up) (b4 : d.1.up ≤ 2305843009213693952) (b7 : -2305843009213693952 ≤ d.1.i) (b8 : d.1.i ≤ 2305843009213693952) (b9 : -2305843009213693952 ≤ d.1.j) (b10 : d.1.j ≤ 2305843009213693952) (hwl : d.1.wt.length ≤ 900000) (hr : ∀ r ∈ d.1.wt, r.1 < r.2 → -4611686018427387904 ≤ r.1 ∧ r.2 ≤ 4611686018427387904) (less : Bool) :
    Calls Tryz.prog 62 #[.pointer (some ⟨B, 0, none⟩), .bool less] w (GP No w B T S hb (c + 31) (fallingR d less)) := by
  cases less with
  | true =>
    by_cases hj : d.1.j < d.1.i
    · exact falling_e h hj
    · exact falling_f h hc b9 b10 hj
  | false =>
    by_cases hj : d.1.j < d.1.i
    · exact falling_p h hc b1 b2 b3 b4 b7 b8 hwl hr hj
    · exact falling_r h hc b7 b8 b9 b10 hj
end Go.Proofs.YtkmopcanaalemabGreat
