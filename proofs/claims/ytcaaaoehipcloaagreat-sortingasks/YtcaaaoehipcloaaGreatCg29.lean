/- The walk of afterFalling. -/
import Derived.Test.YtcaaaoehipcloaaGreatCg26
import Derived.Test.YtcaaaoehipcloaaGreatCg28
import Derived.BigRegion
import Derived.Deep.DeepCutAuto
import Derived.Test.YtcaaaoehipcloaaGreatCg07
namespace Go.Proofs.YtcaaaoehipcloaaGreat
open Go.RowKit

theorem falling_no {d : SD} (h : ¬ d.1.j < d.1.i) : fallingR d false = if putE d d.1.i d.1.y d.1.j d.1.x ≠ 0 then (endD (d.1, (putD d d.1.i d.1.y d.1.j d.1.x).2) (putE d d.1.i d.1.y d.1.j d.1.x), endT (putE d d.1.i d.1.y d.1.j d.1.x)) else riseR (d.1, (putD d d.1.i d.1.y d.1.j d.1.x).2) := by
  have e0 : fallingR d false = if putE d d.1.i d.1.y d.1.j d.1.x ≠ 0 then (endD (putD d d.1.i d.1.y d.1.j d.1.x) (putE d d.1.i d.1.y d.1.j d.1.x), endT (putE d d.1.i d.1.y d.1.j d.1.x)) else riseR (putD d d.1.i d.1.y d.1.j d.1.x) := by unfold fallingR; rw [if_neg (by simp), if_neg h]
  rw [e0, ← putD_eta]
set_option maxRecDepth 20000 in
set_option maxHeartbeats 4000000 in
theorem falling_e {No : Nat → Prop} {w : World} {B : Nat} {wv : Value} {T A b a S hb c : Nat} {d : SD} (h : So No w B wv T A b a S hb c d) (hj : d.1.j < d.1.i) :
    Calls Tryz.prog 47 #[.pointer (some ⟨B, 0, none⟩), .bool true] w (GP No w B T S hb (c + 31) (fallingR d true)) := by
  obtain ⟨N2, s0, HF0⟩ := h.tell2
  have HF : Hid _ := HF0
  obtain ⟨W0, hW0⟩ : ∃ W0, w.alloc z8 = W0 := ⟨_, rfl⟩
  rw [hW0] at HF s0
  unfold z8 at hW0
  clear HF0
  have a1 : W0.cell? ⟨B, 1, none⟩ = some (.int .i64 d.1.lo) := s0.so.cell (j := 1) rfl
  have a2 : W0.cell? ⟨B, 2, none⟩ = some (.int .i64 d.1.up) := s0.so.cell (j := 2) rfl
  have a5 : W0.cell? ⟨B, 5, none⟩ = some (.int .i64 d.1.p) := s0.so.cell (j := 5) rfl
  have a6 : W0.cell? ⟨B, 6, none⟩ = some (.int .i64 d.1.i) := s0.so.cell (j := 6) rfl
  have a7 : W0.cell? ⟨B, 7, none⟩ = some (.int .i64 d.1.j) := s0.so.cell (j := 7) rfl
  have C := fun m => (s0.drewN m).en0 (bself _) 15
  obtain ⟨R, hR⟩ : ∃ R, fallingR d true = R := ⟨_, rfl⟩
  have eR : (endD d 15, endT 15) = R := by rw [← hR]; unfold fallingR; rw [if_pos rfl, if_pos hj]
  rw [hR]
  rw [eR] at C
  unfold GP
  clear h s0 hR eR
  go_enter Tryz.func47, Tryz.ntmps47
  go_wp2_with fail
  go_quiet (fail)
  go_wp2_with fail
  refine (C _).mono ?_
  rintro e w4 ⟨rfl, wv4, A4, b4, a4, s4⟩
  obtain ⟨r4, r5, s5, k5⟩ := HF.out w4 wv4 A4 b4 a4 _ _ R.2 s4
  have HZ : Hid (_ ∧ _ ∧ _) := ⟨r5, s5, k5⟩
  obtain ⟨tl, htl⟩ : ∃ tl, R.2 = tl := ⟨_, rfl⟩
  rw [htl] at HZ ⊢
  obtain ⟨W5, hW5⟩ : ∃ W5, set8 w4 w.heap.size tl = W5 := ⟨_, rfl⟩
  rw [hW5] at HZ
  unfold set8 at hW5
  unfold tolV
  obtain ⟨n0, n1, n2, n3, n4, n5, n6, n7⟩ := r4.eight
  simp only [nil] at n0 n1 n2 n3 n4 n5 n6 n7
  have nf := fun j => r4.free j
  clear r4 r5 s5 k5 s4 HF C
  go_wp2
  obtain ⟨q1, q2, q3⟩ := HZ.out
  obtain ⟨r0, r1, r2, r3, r4, r5, r6, r7⟩ := q1.eight
  exact bodyPost_ret (v := tolV tl) (by simp [results, Tryz.results47, go_sem, r0, r1, r2, r3, r4, r5, r6, r7, tolV]) rfl ⟨by first | rfl | rw [htl], ⟨_, _, _, _, q2.more (by omega)⟩, q3⟩
set_option maxRecDepth 20000 in
set_option maxHeartbeats 4000000 in
theorem falling_f {No : Nat → Prop} {w : World} {B : Nat} {wv : Value} {T A b a S hb c : Nat} {d : SD} (h : So No w B wv T A b a S hb c d) (hc : c ≤ 400000) (b9 : -2305843009213693952 ≤ d.1.j) (b10 : d.1.j ≤ 2305843009213693952) (hj : ¬ d.1.j < d.1.i) :
    Calls Tryz.prog 47 #[.pointer (some ⟨B, 0, none⟩), .bool true] w (GP No w B T S hb (c + 31) (fallingR d true)) := by
  obtain ⟨N2, s0, HF0⟩ := h.tell2
  have HF : Hid _ := HF0
  obtain ⟨W0, hW0⟩ : ∃ W0, w.alloc z8 = W0 := ⟨_, rfl⟩
  rw [hW0] at HF s0
  unfold z8 at hW0
  clear HF0
  have a1 : W0.cell? ⟨B, 1, none⟩ = some (.int .i64 d.1.lo) := s0.so.cell (j := 1) rfl
  have a2 : W0.cell? ⟨B, 2, none⟩ = some (.int .i64 d.1.up) := s0.so.cell (j := 2) rfl
  have a5 : W0.cell? ⟨B, 5, none⟩ = some (.int .i64 d.1.p) := s0.so.cell (j := 5) rfl
  have a6 : W0.cell? ⟨B, 6, none⟩ = some (.int .i64 d.1.i) := s0.so.cell (j := 6) rfl
  have a7 : W0.cell? ⟨B, 7, none⟩ = some (.int .i64 d.1.j) := s0.so.cell (j := 7) rfl
  have C := fun m => (s0.drewN m).of0 (f := 73) (xs := #[.pointer (some ⟨B, 0, none⟩)]) (bself _) (fun q => fall_gp q (by omega) (by omega) (by omega))
  obtain ⟨R, hR⟩ : ∃ R, fallingR d true = R := ⟨_, rfl⟩
  have eR : fallR d = R := by rw [← hR]; unfold fallingR; rw [if_pos rfl, if_neg hj]
  rw [hR]
  rw [eR] at C
  unfold GP
  clear h s0 hR eR
  go_enter Tryz.func47, Tryz.ntmps47
  go_wp2_with fail
  go_quiet (fail)
  go_wp2_with fail
  refine (C _).mono ?_
  rintro e w4 ⟨rfl, wv4, A4, b4, a4, s4⟩
  obtain ⟨r4, r5, s5, k5⟩ := HF.out w4 wv4 A4 b4 a4 _ _ R.2 s4
  have HZ : Hid (_ ∧ _ ∧ _) := ⟨r5, s5, k5⟩
  obtain ⟨tl, htl⟩ : ∃ tl, R.2 = tl := ⟨_, rfl⟩
  rw [htl] at HZ ⊢
  obtain ⟨W5, hW5⟩ : ∃ W5, set8 w4 w.heap.size tl = W5 := ⟨_, rfl⟩
  rw [hW5] at HZ
  unfold set8 at hW5
  unfold tolV
  obtain ⟨n0, n1, n2, n3, n4, n5, n6, n7⟩ := r4.eight
  simp only [nil] at n0 n1 n2 n3 n4 n5 n6 n7
  have nf := fun j => r4.free j
  clear r4 r5 s5 k5 s4 HF C
  go_wp2
  obtain ⟨q1, q2, q3⟩ := HZ.out
  obtain ⟨r0, r1, r2, r3, r4, r5, r6, r7⟩ := q1.eight
  exact bodyPost_ret (v := tolV tl) (by simp [results, Tryz.results47, go_sem, r0, r1, r2, r3, r4, r5, r6, r7, tolV]) rfl ⟨by first | rfl | rw [htl], ⟨_, _, _, _, q2.more (by omega)⟩, q3⟩
set_option maxRecDepth 20000 in
set_option maxHeartbeats 4000000 in
theorem falling_p {No : Nat → Prop} {w : World} {B : Nat} {wv : Value} {T A b a S hb c : Nat} {d : SD} (h : So No w B wv T A b a S hb c d) (hc : c ≤ 400000) (b1 : -2305843009213693952 ≤ d.1.lo) (b2 : d.1.lo ≤ 2305843009213693952) (b3 : -2305843009213693952 ≤ d.1.up) (b4 : d.1.up ≤ 2305843009213693952) (b7 : -2305843009213693952 ≤ d.1.i) (b8 : d.1.i ≤ 2305843009213693952) (hwl : d.1.wt.length ≤ 900000) (hr : ∀ r ∈ d.1.wt, r.1 < r.2 → -4611686018427387904 ≤ r.1 ∧ r.2 ≤ 4611686018427387904) (hj : d.1.j < d.1.i) :
    Calls Tryz.prog 47 #[.pointer (some ⟨B, 0, none⟩), .bool false] w (GP No w B T S hb (c + 31) (fallingR d false)) := by
  obtain ⟨N2, s0, HF0⟩ := h.tell2
  have HF : Hid _ := HF0
  obtain ⟨W0, hW0⟩ : ∃ W0, w.alloc z8 = W0 := ⟨_, rfl⟩
  rw [hW0] at HF s0
  unfold z8 at hW0
  clear HF0
  have a1 : W0.cell? ⟨B, 1, none⟩ = some (.int .i64 d.1.lo) := s0.so.cell (j := 1) rfl
  have a2 : W0.cell? ⟨B, 2, none⟩ = some (.int .i64 d.1.up) := s0.so.cell (j := 2) rfl
  have a5 : W0.cell? ⟨B, 5, none⟩ = some (.int .i64 d.1.p) := s0.so.cell (j := 5) rfl
  have a6 : W0.cell? ⟨B, 6, none⟩ = some (.int .i64 d.1.i) := s0.so.cell (j := 6) rfl
  have a7 : W0.cell? ⟨B, 7, none⟩ = some (.int .i64 d.1.j) := s0.so.cell (j := 7) rfl
  have C := fun m => (s0.drewN m).of0 (f := 75) (xs := #[.pointer (some ⟨B, 0, none⟩)]) (bself _) (fun q => part_any q (by omega) b1 b2 b3 b4 b7 b8 hwl hr)
  obtain ⟨R, hR⟩ : ∃ R, fallingR d false = R := ⟨_, rfl⟩
  have eR : partR d = R := by rw [← hR]; unfold fallingR; rw [if_neg (by simp), if_pos hj]
  rw [hR]
  rw [eR] at C
  unfold GP
  clear h s0 hR eR hr
  go_enter Tryz.func47, Tryz.ntmps47
  go_wp2_with fail
  go_quiet (fail)
  go_wp2_with fail
  go_quiet (fail)
  go_wp2_with fail
  refine (C _).mono ?_
  rintro e w4 ⟨rfl, wv4, A4, b4, a4, s4⟩
  obtain ⟨r4, r5, s5, k5⟩ := HF.out w4 wv4 A4 b4 a4 _ _ R.2 s4
  have HZ : Hid (_ ∧ _ ∧ _) := ⟨r5, s5, k5⟩
  obtain ⟨tl, htl⟩ : ∃ tl, R.2 = tl := ⟨_, rfl⟩
  rw [htl] at HZ ⊢
  obtain ⟨W5, hW5⟩ : ∃ W5, set8 w4 w.heap.size tl = W5 := ⟨_, rfl⟩
  rw [hW5] at HZ
  unfold set8 at hW5
  unfold tolV
  obtain ⟨n0, n1, n2, n3, n4, n5, n6, n7⟩ := r4.eight
  simp only [nil] at n0 n1 n2 n3 n4 n5 n6 n7
  have nf := fun j => r4.free j
  clear r4 r5 s5 k5 s4 HF C
  go_wp2
  obtain ⟨q1, q2, q3⟩ := HZ.out
  obtain ⟨r0, r1, r2, r3, r4, r5, r6, r7⟩ := q1.eight
  exact bodyPost_ret (v := tolV tl) (by simp [results, Tryz.results47, go_sem, r0, r1, r2, r3, r4, r5, r6, r7, tolV]) rfl ⟨by first | rfl | rw [htl], ⟨_, _, _, _, q2.more (by omega)⟩, q3⟩
set_option maxRecDepth 20000 in
set_option maxHeartbeats 4000000 in
theorem falling_r {No : Nat → Prop} {w : World} {B : Nat} {wv : Value} {T A b a S hb c : Nat} {d : SD} (h : So No w B wv T A b a S hb c d) (hc : c ≤ 400000) (b7 : -2305843009213693952 ≤ d.1.i) (b8 : d.1.i ≤ 2305843009213693952) (b9 : -2305843009213693952 ≤ d.1.j) (b10 : d.1.j ≤ 2305843009213693952) (hj : ¬ d.1.j < d.1.i) :
    Calls Tryz.prog 47 #[.pointer (some ⟨B, 0, none⟩), .bool false] w (GP No w B T S hb (c + 31) (fallingR d false)) := by
  obtain ⟨N2, s0, HF0⟩ := h.tell2
  have HF : Hid _ := HF0
  obtain ⟨W0, hW0⟩ : ∃ W0, w.alloc z8 = W0 := ⟨_, rfl⟩
  rw [hW0] at HF s0
  unfold z8 at hW0
  clear HF0
  have a1 : W0.cell? ⟨B, 1, none⟩ = some (.int .i64 d.1.lo) := s0.so.cell (j := 1) rfl
  have a2 : W0.cell? ⟨B, 2, none⟩ = some (.int .i64 d.1.up) := s0.so.cell (j := 2) rfl
  have a5 : W0.cell? ⟨B, 5, none⟩ = some (.int .i64 d.1.p) := s0.so.cell (j := 5) rfl
  have a6 : W0.cell? ⟨B, 6, none⟩ = some (.int .i64 d.1.i) := s0.so.cell (j := 6) rfl
  have a7 : W0.cell? ⟨B, 7, none⟩ = some (.int .i64 d.1.j) := s0.so.cell (j := 7) rfl
  have a8 : W0.cell? ⟨B, 8, none⟩ = some (.int .i64 d.1.x.1) := s0.so.cell (j := 8) rfl
  have a9 : W0.cell? ⟨B, 9, none⟩ = some (.int .i64 d.1.x.2.1) := s0.so.cell (j := 9) rfl
  have a10 : W0.cell? ⟨B, 10, none⟩ = some (.string d.1.x.2.2) := s0.so.cell (j := 10) rfl
  have a11 : W0.cell? ⟨B, 11, none⟩ = some (.int .i64 d.1.y.1) := s0.so.cell (j := 11) rfl
  have a12 : W0.cell? ⟨B, 12, none⟩ = some (.int .i64 d.1.y.2.1) := s0.so.cell (j := 12) rfl
  have a13 : W0.cell? ⟨B, 13, none⟩ = some (.string d.1.y.2.2) := s0.so.cell (j := 13) rfl
  have a14 : W0.cell? ⟨B, 14, none⟩ = some (.int .i64 d.1.pv.1) := s0.so.cell (j := 14) rfl
  have a15 : W0.cell? ⟨B, 15, none⟩ = some (.int .i64 d.1.pv.2.1) := s0.so.cell (j := 15) rfl
  have a16 : W0.cell? ⟨B, 16, none⟩ = some (.string d.1.pv.2.2) := s0.so.cell (j := 16) rfl
  obtain ⟨R, hR⟩ : ∃ R, fallingR d false = R := ⟨_, rfl⟩
  rw [hR]
  unfold GP
  rw [falling_no hj] at hR
  have C5 := fun m => s0.pu0 (w' := W0.drewN m) (bdrewN W0 m) (by omega) (d.1.i) (d.1.j) d.1.y d.1.x (by omega) (by omega) (by omega) (by omega)
  obtain ⟨E, hE⟩ : ∃ E, putE (d) (d.1.i) (d.1.y) (d.1.j) (d.1.x) = E := ⟨_, rfl⟩
  obtain ⟨P2, hP2⟩ : ∃ P2, (putD (d) (d.1.i) (d.1.y) (d.1.j) (d.1.x)).2 = P2 := ⟨_, rfl⟩
  rw [hE, hP2] at C5 hR
  clear hE hP2 h
  by_cases hE0 : E = 0
  · subst hE0
    rw [if_neg (by simp)] at hR
    have HR : Hid (_ = R) := hR
    clear hR
    go_enter Tryz.func47, Tryz.ntmps47
    go_wp2_with fail
    go_quiet (fail)
    go_wp2_with fail
    go_quiet (fail)
    go_wp2_with fail
    refine wp_tail 17 (by kernel_rfl) (by kernel_rfl) ?_
    simp only [List.take_succ_cons, List.take_zero, List.drop_succ_cons, List.drop_zero]
    repeat still_step
    refine wpStill_nil ?_
    go_wp2_with fail
    refine (C5 _).mono ?_
    rintro e w5 ⟨rfl, A5, B5, D5, k5⟩
    have C8 := k5.of0 (f := 74) (xs := #[.pointer (some ⟨B, 0, none⟩)]) (bself w5) (fun q => rise_gp q (by omega) (by simp only; omega) (by simp only; omega))
    rw [HR.out] at C8
    clear HR k5 C5
    go_wp2_with fail
    refine (C8).mono ?_
    rintro e w4 ⟨rfl, wv4, A4, b4, a4, s4⟩
    obtain ⟨r4, r5, s5, k5⟩ := HF.out w4 wv4 A4 b4 a4 _ _ R.2 s4
    have HZ : Hid (_ ∧ _ ∧ _) := ⟨r5, s5, k5⟩
    obtain ⟨tl, htl⟩ : ∃ tl, R.2 = tl := ⟨_, rfl⟩
    rw [htl] at HZ ⊢
    obtain ⟨W5, hW5⟩ : ∃ W5, set8 w4 w.heap.size tl = W5 := ⟨_, rfl⟩
    rw [hW5] at HZ
    unfold set8 at hW5
    unfold tolV
    obtain ⟨n0, n1, n2, n3, n4, n5, n6, n7⟩ := r4.eight
    simp only [nil] at n0 n1 n2 n3 n4 n5 n6 n7
    have nf := fun j => r4.free j
    clear r4 r5 s5 k5 s4 HF C8
    go_wp2
    obtain ⟨q1, q2, q3⟩ := HZ.out
    obtain ⟨r0, r1, r2, r3, r4, r5, r6, r7⟩ := q1.eight
    exact bodyPost_ret (v := tolV tl) (by simp [results, Tryz.results47, go_sem, r0, r1, r2, r3, r4, r5, r6, r7, tolV]) rfl ⟨by first | rfl | rw [htl], ⟨_, _, _, _, q2.more (by omega)⟩, q3⟩
  · have hE' : (E != 0) = true := by simpa using hE0
    rw [if_pos hE0] at hR
    have HR : Hid (_ = R) := hR
    clear hR
    go_enter Tryz.func47, Tryz.ntmps47
    go_wp2_with fail
    go_quiet (fail)
    go_wp2_with fail
    go_quiet (fail)
    go_wp2_with fail
    refine wp_tail 17 (by kernel_rfl) (by kernel_rfl) ?_
    simp only [List.take_succ_cons, List.take_zero, List.drop_succ_cons, List.drop_zero]
    repeat still_step
    refine wpStill_nil ?_
    go_wp2_with fail
    refine (C5 _).mono ?_
    rintro e w5 ⟨rfl, A5, B5, D5, k5⟩
    have C8 := k5.en0 (bself w5) E
    rw [HR.out] at C8
    clear HR k5 C5 hE0
    go_wp2_with fail
    refine (C8).mono ?_
    rintro e w4 ⟨rfl, wv4, A4, b4, a4, s4⟩
    obtain ⟨r4, r5, s5, k5⟩ := HF.out w4 wv4 A4 b4 a4 _ _ R.2 s4
    have HZ : Hid (_ ∧ _ ∧ _) := ⟨r5, s5, k5⟩
    obtain ⟨tl, htl⟩ : ∃ tl, R.2 = tl := ⟨_, rfl⟩
    rw [htl] at HZ ⊢
    obtain ⟨W5, hW5⟩ : ∃ W5, set8 w4 w.heap.size tl = W5 := ⟨_, rfl⟩
    rw [hW5] at HZ
    unfold set8 at hW5
    unfold tolV
    obtain ⟨n0, n1, n2, n3, n4, n5, n6, n7⟩ := r4.eight
    simp only [nil] at n0 n1 n2 n3 n4 n5 n6 n7
    have nf := fun j => r4.free j
    clear r4 r5 s5 k5 s4 HF C8
    go_wp2
    obtain ⟨q1, q2, q3⟩ := HZ.out
    obtain ⟨r0, r1, r2, r3, r4, r5, r6, r7⟩ := q1.eight
    exact bodyPost_ret (v := tolV tl) (by simp [results, Tryz.results47, go_sem, r0, r1, r2, r3, r4, r5, r6, r7, tolV]) rfl ⟨by first | rfl | rw [htl], ⟨_, _, _, _, q2.more (by omega)⟩, q3⟩
theorem falling_any {No : Nat → Prop} {w : World} {B : Nat} {wv : Value} {T A b a S hb c : Nat} {d : SD} (h : So No w B wv T A b a S hb c d) (hc : c ≤ 400000) (b1 : -2305843009213693952 ≤ d.1.lo) (b2 : d.1.lo ≤ 2305843009213693952) (b3 : -2305843009213693952 ≤ d.1.up) (b4 : d.1.up ≤ 2305843009213693952) (b7 : -2305843009213693952 ≤ d.1.i) (b8 : d.1.i ≤ 2305843009213693952) (b9 : -2305843009213693952 ≤ d.1.j) (b10 : d.1.j ≤ 2305843009213693952) (hwl : d.1.wt.length ≤ 900000) (hr : ∀ r ∈ d.1.wt, r.1 < r.2 → -4611686018427387904 ≤ r.1 ∧ r.2 ≤ 4611686018427387904) (less : Bool) :
    Calls Tryz.prog 47 #[.pointer (some ⟨B, 0, none⟩), .bool less] w (GP No w B T S hb (c + 31) (fallingR d less)) := by
  cases less with
  | true =>
    by_cases hj : d.1.j < d.1.i
    · exact falling_e h hj
    · exact falling_f h hc b9 b10 hj
  | false =>
    by_cases hj : d.1.j < d.1.i
    · exact falling_p h hc b1 b2 b3 b4 b7 b8 hwl hr hj
    · exact falling_r h hc b7 b8 b9 b10 hj
end Go.Proofs.YtcaaaoehipcloaaGreat

/- The sorter's invariant (no program in it): who stands where, what was read, how much is left to ask. -/
namespace Go.Proofs.YtcaaaoehipcloaaGreat
namespace U

/-- One place has another value. -/
def sw1 (f : Int → V) (k : Int) (v : V) : Int → V := fun j => if j = k then v else f j
/-- Two places are exchanged. -/
def swp (f : Int → V) (a b : Int) : Int → V := sw1 (sw1 f a (f b)) b (f a)
theorem swp_at (f : Int → V) (a b j : Int) : swp f a b j = if j = b then f a else if j = a then f b else f j := rfl
/-- How often a value stands at the places 1 to n. -/
def cnt (f : Int → V) (w : V) : Nat → Nat
  | 0 => 0
  | n + 1 => cnt f w n + (if f ((n : Int) + 1) = w then 1 else 0)
theorem cnt_same {f g : Int → V} (w : V) : ∀ n : Nat, (∀ j, 1 ≤ j → j ≤ (n : Int) → f j = g j) → cnt f w n = cnt g w n
  | 0, _ => rfl
  | n + 1, h => by
    unfold cnt
    rw [cnt_same w n (fun j h1 h2 => h j h1 (by omega)), h ((n : Int) + 1) (by omega) (by omega)]
theorem cnt_sw1 (f : Int → V) (w v : V) (a : Int) : ∀ n : Nat, 1 ≤ a → a ≤ (n : Int) → cnt (sw1 f a v) w n + (if f a = w then 1 else 0) = cnt f w n + (if v = w then 1 else 0)
  | 0, h1, h2 => by omega
  | n + 1, h1, h2 => by
    unfold cnt
    by_cases e : a = (n : Int) + 1
    · subst e
      have e1 : sw1 f ((n : Int) + 1) v ((n : Int) + 1) = v := by unfold sw1; rw [if_pos rfl]
      have e2 := cnt_same (f := sw1 f ((n : Int) + 1) v) (g := f) w n (fun j _ h2 => by unfold sw1; rw [if_neg (by omega)])
      rw [e1, e2]
      omega
    · have ih := cnt_sw1 f w v a n h1 (by omega)
      have e1 : sw1 f a v ((n : Int) + 1) = f ((n : Int) + 1) := by unfold sw1; rw [if_neg (fun q => e q.symm)]
      rw [e1]
      omega
theorem cnt_swp (f : Int → V) (w : V) (a b : Int) (n : Nat) (h1 : 1 ≤ a) (h2 : a ≤ (n : Int)) (h3 : 1 ≤ b) (h4 : b ≤ (n : Int)) : cnt (swp f a b) w n = cnt f w n := by
  have e1 := cnt_sw1 f w (f b) a n h1 h2
  have e2 := cnt_sw1 (sw1 f a (f b)) w (f a) b n h3 h4
  have e3 : sw1 f a (f b) b = f b := by
    unfold sw1
    by_cases q : b = a
    · rw [if_pos q]
    · rw [if_neg q]
  rw [e3] at e2
  unfold swp
  omega
/-- Each as often. -/
def Sc (n : Nat) (f g : Int → V) : Prop := ∀ w, cnt g w n = cnt f w n
theorem Sc.refl (n : Nat) (f : Int → V) : Sc n f f := fun _ => rfl
theorem Sc.trans {n : Nat} {f g h : Int → V} (h1 : Sc n f g) (h2 : Sc n g h) : Sc n f h := fun w => (h2 w).trans (h1 w)
theorem Sc.swp {n : Nat} (f : Int → V) {a b : Int} (h1 : 1 ≤ a) (h2 : a ≤ (n : Int)) (h3 : 1 ≤ b) (h4 : b ≤ (n : Int)) : Sc n f (swp f a b) := fun w => cnt_swp f w a b n h1 h2 h3 h4

/-- A table whose places 1 to n hold f, and may be read and set without an error. -/
structure Hd (n : Nat) (Gd : V → Prop) (M : TS → H.St → (Int → V) → Prop) : Prop where
  gd : ∀ t s f k, M t s f → 1 ≤ k → k ≤ (n : Int) → Gd (f k)
  rd : ∀ t s f k, M t s f → 1 ≤ k → k ≤ (n : Int) → pget t.p (kn k) = f k
  pr : ∀ t s f r, M t s f → M { t with pr := r } s f
  st : ∀ t s f k v, M t s f → 1 ≤ k → k ≤ (n : Int) → Gd v → (tset t s (kn k) v).2.2 = 0 ∧ M (tset t s (kn k) v).1 (tset t s (kn k) v).2.1 (sw1 f k v)
section
variable {n : Nat} {Gd : V → Prop} {M : TS → H.St → (Int → V) → Prop}
theorem Hd.read (hd : Hd n Gd M) {d : SD} {f : Int → V} (h : M d.2.1 d.2.2 f) {k : Int} (h1 : 1 ≤ k) (h2 : k ≤ (n : Int)) : rdV d k = f k ∧ M (rdD d k).2.1 (rdD d k).2.2 f ∧ (rdD d k).1 = d.1 :=
  ⟨hd.rd _ _ f k h h1 h2, hd.pr _ _ f _ h, rfl⟩
theorem Hd.put (hd : Hd n Gd M) {d : SD} {f : Int → V} (h : M d.2.1 d.2.2 f) {a b : Int} (h1 : 1 ≤ a) (h2 : a ≤ (n : Int)) (h3 : 1 ≤ b) (h4 : b ≤ (n : Int)) {x y : V} (hx : x = f a) (hy : y = f b) : putE d a y b x = 0 ∧ M (putD d a y b x).2.1 (putD d a y b x).2.2 (swp f a b) ∧ (putD d a y b x).1 = d.1 := by
  subst hx hy
  obtain ⟨e1, k1⟩ := hd.st _ _ f a (f b) h h1 h2 (hd.gd _ _ f b h h3 h4)
  obtain ⟨e2, k2⟩ := hd.st _ _ _ b (f a) k1 h3 h4 (hd.gd _ _ f a h h1 h2)
  have e1' : stE d a (f b) = 0 := e1
  unfold putE putD
  rw [if_neg (fun q => q e1'), if_neg (fun q => q e1')]
  exact ⟨e2, k2, rfl⟩
/-- A row is short, or lies within 1 to n. -/
def RO (n : Nat) (r : Int × Int) : Prop := r.1 < r.2 → 1 ≤ r.1 ∧ r.2 ≤ (n : Int)
/-- How many questions a row may take at most. -/
def sq (r : Int × Int) : Int := if r.1 < r.2 then (r.2 - r.1 + 1) * (r.2 - r.1 + 1) else 0
def sqs : List (Int × Int) → Int
  | [] => 0
  | r :: l => sq r + sqs l
theorem sq_nn (r : Int × Int) : 0 ≤ sq r := by
  unfold sq
  split
  · exact Int.mul_nonneg (by omega) (by omega)
  · exact Int.le_refl _
theorem sqs_nn : ∀ l, 0 ≤ sqs l
  | [] => Int.le_refl _
  | r :: l => by have := sq_nn r; have := sqs_nn l; unfold sqs; omega
/-- The sorter's state behind a question. -/
structure SI (n : Nat) (s : SS) (f : Int → V) : Prop where
  wt : ∀ r ∈ s.wt, RO n r
  lt : s.lo < s.up
  lo : 1 ≤ s.lo
  up : s.up ≤ (n : Int)
  st : (s.ak = 1 ∧ s.x = f s.lo ∧ s.y = f s.up) ∨
    (s.ak = 2 ∧ s.lo + 1 < s.up ∧ s.p = s.lo + (s.up - s.lo) / 2 ∧ s.x = f s.p ∧ s.y = f s.lo) ∨
    (s.ak = 3 ∧ s.lo + 1 < s.up ∧ s.p = s.lo + (s.up - s.lo) / 2 ∧ s.x = f s.p ∧ s.y = f s.up) ∨
    (s.ak = 4 ∧ s.pv = f (s.up - 1) ∧ s.x = f s.i ∧ s.lo < s.i ∧ s.i ≤ s.up - 1 ∧ s.lo < s.j ∧ s.j ≤ s.up - 1) ∨
    (s.ak = 5 ∧ s.pv = f (s.up - 1) ∧ s.x = f s.i ∧ s.y = f s.j ∧ s.lo < s.i ∧ s.i ≤ s.up - 1 ∧ s.lo ≤ s.j ∧ s.j < s.up - 1)
/-- How many questions are left at most. -/
def lft (s : SS) : Int :=
  let m := s.up - s.lo + 1
  sqs s.wt + (if s.ak ≤ 3 then m * m - s.ak else (m - 1) * (m - 1) + (s.up - 1 - s.i) + (s.j - s.lo))
theorem lft_nn {s : SS} {f : Int → V} (h : SI n s f) : 0 ≤ lft s := by
  have h0 := sqs_nn s.wt
  have hl := h.lt
  unfold lft
  simp only
  split
  · rename_i q
    have : 2 * 2 ≤ (s.up - s.lo + 1) * (s.up - s.lo + 1) := Int.mul_le_mul (by omega) (by omega) (by omega) (by omega)
    omega
  · have : 0 ≤ (s.up - s.lo + 1 - 1) * (s.up - s.lo + 1 - 1) := Int.mul_nonneg (by omega) (by omega)
    rcases h.st with q | q | q | q | q <;> omega
/-- What a step of the sorter comes to: a question, with less left; or the end. -/
def Bh (n : Nat) (M : TS → H.St → (Int → V) → Prop) (f : Int → V) (L : Int) (r : SD × Tol) : Prop :=
  ∃ g, Sc n f g ∧ M r.1.2.1 r.1.2.2 g ∧
    ((r.2.2.2.1 = true ∧ r.2.2.2.2 = 0 ∧ SI n r.1.1 g ∧ lft r.1.1 < L) ∨ ∃ e, (e = 0 ∨ e = 15) ∧ r.1.1 = endS e ∧ r.2 = endT e)
theorem pop_ok (n : Nat) : ∀ (l : List (Int × Int)) (lo up : Int), RO n (lo, up) → (∀ r ∈ l, RO n r) → ∀ q, pop lo up l = some q → q.1.1 < q.1.2 ∧ 1 ≤ q.1.1 ∧ q.1.2 ≤ (n : Int) ∧ (∀ r ∈ q.2, RO n r) ∧ sq q.1 + sqs q.2 ≤ sq (lo, up) + sqs l
  | [], lo, up, h0, _, q, e => by
    unfold pop at e
    by_cases c : lo < up
    · rw [if_pos c] at e
      obtain rfl := Option.some.inj e
      exact ⟨c, (h0 c).1, (h0 c).2, fun r hr => (by cases hr), Int.le_refl _⟩
    · rw [if_neg c] at e; cases e
  | r :: l, lo, up, h0, h, q, e => by
    unfold pop at e
    by_cases c : lo < up
    · rw [if_pos c] at e
      obtain rfl := Option.some.inj e
      exact ⟨c, (h0 c).1, (h0 c).2, h, Int.le_refl _⟩
    · rw [if_neg c] at e
      obtain ⟨a1, a2, a3, a4, a5⟩ := pop_ok n l r.1 r.2 (h r (List.mem_cons_self ..)) (fun r hr => h r (List.mem_cons_of_mem _ hr)) q e
      refine ⟨a1, a2, a3, a4, Int.le_trans a5 ?_⟩
      have := sq_nn (lo, up)
      show sq (r.1, r.2) + sqs l ≤ sq (lo, up) + (sq r + sqs l)
      have e : (r.1, r.2) = r := rfl
      rw [e]
      omega
theorem nrow_ok (hd : Hd n Gd M) {d : SD} {f : Int → V} (h : M d.2.1 d.2.2 f) (h0 : RO n (d.1.lo, d.1.up)) (hw : ∀ r ∈ d.1.wt, RO n r) {L : Int} (hL : sq (d.1.lo, d.1.up) + sqs d.1.wt ≤ L) : Bh n M f L (nrow d) := by
  unfold nrow
  cases hp : pop d.1.lo d.1.up d.1.wt with
  | none => exact ⟨f, Sc.refl n f, h, .inr ⟨0, .inl rfl, rfl, rfl⟩⟩
  | some q =>
    obtain ⟨r, l⟩ := q
    obtain ⟨a1, a2, a3, a4, a5⟩ := pop_ok n _ _ _ h0 hw _ hp
    simp only at a1 a2 a3 a4 a5
    let d1 : SD := ({ d.1 with lo := r.1, up := r.2, wt := l }, d.2)
    obtain ⟨x1, x2, x3⟩ := hd.read (d := d1) h a2 (by omega : r.1 ≤ (n : Int))
    obtain ⟨y1, y2, y3⟩ := hd.read (d := rdD d1 r.1) x2 (by omega : 1 ≤ r.2) a3
    refine ⟨f, Sc.refl n f, y2, .inl ⟨rfl, rfl, ⟨a4, a1, a2, a3, .inl ⟨rfl, x1, y1⟩⟩, ?_⟩⟩
    show sqs l + (if (1 : Int) ≤ 3 then (r.2 - r.1 + 1) * (r.2 - r.1 + 1) - 1 else _) < L
    rw [if_pos (by omega)]
    unfold sq at a5
    rw [if_pos a1] at a5
    have := hL
    unfold sq at this
    omega
end
end U
end Go.Proofs.YtcaaaoehipcloaaGreat

/- The sorter's invariant, on: every step keeps it, and has less left to ask. -/
namespace Go.Proofs.YtcaaaoehipcloaaGreat
namespace U
section
variable {n : Nat} {Gd : V → Prop} {M : TS → H.St → (Int → V) → Prop}
theorem Bh.via {f g : Int → V} {L : Int} {r : SD × Tol} (h : Bh n M g L r) (hs : Sc n f g) : Bh n M f L r := by
  obtain ⟨k, h1, h2, h3⟩ := h
  exact ⟨k, hs.trans h1, h2, h3⟩
theorem leave_ok (hd : Hd n Gd M) {d : SD} {f : Int → V} (h : M d.2.1 d.2.2 f) (hw : ∀ r ∈ d.1.wt, RO n r) {L : Int} (hL : sqs d.1.wt ≤ L) : Bh n M f L (leaveR d) := by
  refine nrow_ok hd (d := ({ d.1 with lo := 0, up := 0 }, d.2)) h (fun q => absurd (show (0 : Int) < 0 from q) (by omega)) hw ?_
  have e : sq ((0 : Int), (0 : Int)) = 0 := by unfold sq; rw [if_neg (by simp)]
  show sq ((0 : Int), (0 : Int)) + sqs d.1.wt ≤ L
  omega
theorem rise_ok (hd : Hd n Gd M) {d : SD} {f : Int → V} (h : M d.2.1 d.2.2 f) (hw : ∀ r ∈ d.1.wt, RO n r) (h1 : 1 ≤ d.1.lo) (h2 : d.1.up ≤ (n : Int)) (hv : d.1.pv = f (d.1.up - 1)) (h3 : d.1.lo ≤ d.1.i) (h4 : d.1.i + 1 ≤ d.1.up - 1) (h5 : d.1.lo < d.1.j) (h6 : d.1.j ≤ d.1.up - 1) {L : Int} (hL : sqs d.1.wt + (d.1.up - d.1.lo) * (d.1.up - d.1.lo) + (d.1.up - 1 - d.1.i) + (d.1.j - d.1.lo) ≤ L) : Bh n M f L (riseR d) := by
  obtain ⟨x1, x2, x3⟩ := hd.read (d := ({ d.1 with i := d.1.i + 1 }, d.2)) h (k := d.1.i + 1) (by omega) (by omega)
  refine ⟨f, Sc.refl n f, x2, .inl ⟨rfl, rfl, ⟨hw, ?_, h1, h2, .inr (.inr (.inr (.inl ⟨rfl, hv, x1, ?_, h4, h5, h6⟩)))⟩, ?_⟩⟩
  · show d.1.lo < d.1.up; omega
  · show d.1.lo < d.1.i + 1; omega
  · show sqs d.1.wt + (if (4 : Int) ≤ 3 then _ else (d.1.up - d.1.lo + 1 - 1) * (d.1.up - d.1.lo + 1 - 1) + (d.1.up - 1 - (d.1.i + 1)) + (d.1.j - d.1.lo)) < L
    rw [if_neg (by omega), show d.1.up - d.1.lo + 1 - 1 = d.1.up - d.1.lo by omega]
    omega
theorem fall_ok (hd : Hd n Gd M) {d : SD} {f : Int → V} (h : M d.2.1 d.2.2 f) (hw : ∀ r ∈ d.1.wt, RO n r) (h1 : 1 ≤ d.1.lo) (h2 : d.1.up ≤ (n : Int)) (hv : d.1.pv = f (d.1.up - 1)) (hx : d.1.x = f d.1.i) (h3 : d.1.lo < d.1.i) (h4 : d.1.i ≤ d.1.up - 1) (h5 : d.1.lo < d.1.j) (h6 : d.1.j ≤ d.1.up - 1) {L : Int} (hL : sqs d.1.wt + (d.1.up - d.1.lo) * (d.1.up - d.1.lo) + (d.1.up - 1 - d.1.i) + (d.1.j - d.1.lo) ≤ L) : Bh n M f L (fallR d) := by
  obtain ⟨x1, x2, x3⟩ := hd.read (d := ({ d.1 with j := d.1.j - 1 }, d.2)) h (k := d.1.j - 1) (by omega) (by omega)
  refine ⟨f, Sc.refl n f, x2, .inl ⟨rfl, rfl, ⟨hw, ?_, h1, h2, .inr (.inr (.inr (.inr ⟨rfl, hv, hx, x1, h3, h4, ?_, ?_⟩)))⟩, ?_⟩⟩
  · show d.1.lo < d.1.up; omega
  · show d.1.lo ≤ d.1.j - 1; omega
  · show d.1.j - 1 < d.1.up - 1; omega
  · show sqs d.1.wt + (if (5 : Int) ≤ 3 then _ else (d.1.up - d.1.lo + 1 - 1) * (d.1.up - d.1.lo + 1 - 1) + (d.1.up - 1 - d.1.i) + (d.1.j - 1 - d.1.lo)) < L
    rw [if_neg (by omega), show d.1.up - d.1.lo + 1 - 1 = d.1.up - d.1.lo by omega]
    omega
theorem split_ok (hd : Hd n Gd M) {d : SD} {f : Int → V} (h : M d.2.1 d.2.2 f) (hw : ∀ r ∈ d.1.wt, RO n r) (h1 : 1 ≤ d.1.lo) (h2 : d.1.up ≤ (n : Int)) (h3 : d.1.lo + 1 < d.1.up) (hp : d.1.p = d.1.lo + (d.1.up - d.1.lo) / 2) {L : Int} (hL : sqs d.1.wt + (d.1.up - d.1.lo) * (d.1.up - d.1.lo) + 2 * (d.1.up - d.1.lo) - 2 ≤ L) : Bh n M f L (splitR d) := by
  unfold splitR
  have hsq : 0 ≤ (d.1.up - d.1.lo) * (d.1.up - d.1.lo) := Int.mul_nonneg (by omega) (by omega)
  by_cases c : d.1.up - d.1.lo = 2
  · rw [if_pos c]
    exact leave_ok hd h hw (by omega)
  · rw [if_neg c]
    have p1 : 1 ≤ d.1.p := by omega
    have p2 : d.1.p ≤ (n : Int) := by omega
    obtain ⟨x1, x2, x3⟩ := hd.read (d := d) h p1 p2
    obtain ⟨y1, y2, y3⟩ := hd.read (d := rdD d d.1.p) x2 (k := d.1.up - 1) (by omega) (by omega)
    simp only [x1, y1]
    obtain ⟨e, z2, z3⟩ := hd.put (d := ({ (rdD (rdD d d.1.p) (d.1.up - 1)).1 with pv := f d.1.p, y := f (d.1.up - 1) }, (rdD (rdD d d.1.p) (d.1.up - 1)).2)) y2 (a := d.1.p) (b := d.1.up - 1) p1 p2 (by omega) (by omega) rfl rfl
    rw [if_neg (fun q => q e)]
    have hL' : sqs d.1.wt + (d.1.up - d.1.lo) * (d.1.up - d.1.lo) + (d.1.up - 1 - d.1.lo) + (d.1.up - 1 - d.1.lo) ≤ L := by omega
    generalize putD _ _ _ _ _ = d4 at *
    obtain ⟨s4, t4⟩ := d4
    simp only at z2 z3
    subst z3
    refine (rise_ok hd (d := ({ ({ d.1 with pv := f d.1.p, y := f (d.1.up - 1) } : SS) with i := d.1.lo, j := d.1.up - 1 }, t4)) z2 hw h1 h2 ?_ (Int.le_refl _) ?_ ?_ (Int.le_refl _) hL').via (Sc.swp f p1 p2 (by omega) (by omega))
    · show f d.1.p = swp f d.1.p (d.1.up - 1) (d.1.up - 1)
      rw [swp_at, if_pos rfl]
    · show d.1.lo + 1 ≤ d.1.up - 1; omega
    · show d.1.lo < d.1.up - 1; omega
theorem sq_two {a b : Int} (ha : 1 ≤ a) (hb : 1 ≤ b) : a * a + b * b + 2 ≤ (a + b) * (a + b) := by
  have h : 1 * 1 ≤ a * b := Int.mul_le_mul ha hb (by omega) (by omega)
  have e : (a + b) * (a + b) = a * a + b * b + 2 * (a * b) := by
    rw [Int.add_mul, Int.mul_add, Int.mul_add, Int.mul_comm b a]
    omega
  omega
theorem sq_le {lo up m : Int} (h : 0 ≤ m) (e : up - lo + 1 = m) : sq (lo, up) ≤ m * m := by
  unfold sq
  split
  · simp only at *
    rw [e]
    exact Int.le_refl _
  · exact Int.mul_nonneg h h
theorem part_ok (hd : Hd n Gd M) {d : SD} {f : Int → V} (h : M d.2.1 d.2.2 f) (hw : ∀ r ∈ d.1.wt, RO n r) (h1 : 1 ≤ d.1.lo) (h2 : d.1.up ≤ (n : Int)) (h3 : d.1.lo < d.1.i) (h4 : d.1.i ≤ d.1.up - 1) {L : Int} (hL : sqs d.1.wt + (d.1.up - d.1.lo) * (d.1.up - d.1.lo) ≤ L) : Bh n M f L (partR d) := by
  unfold partR
  obtain ⟨x1, x2, x3⟩ := hd.read (d := d) h (k := d.1.up - 1) (by omega) (by omega)
  obtain ⟨y1, y2, y3⟩ := hd.read (d := rdD d (d.1.up - 1)) x2 (k := d.1.i) (by omega) (by omega)
  simp only [x1, y1]
  obtain ⟨e, z2, z3⟩ := hd.put (d := ({ (rdD (rdD d (d.1.up - 1)) d.1.i).1 with x := f (d.1.up - 1), y := f d.1.i }, (rdD (rdD d (d.1.up - 1)) d.1.i).2)) y2 (a := d.1.up - 1) (b := d.1.i) (by omega) (by omega) (by omega) (by omega) rfl rfl
  rw [if_neg (fun q => q e)]
  generalize putD _ _ _ _ _ = d4 at *
  obtain ⟨s4, t4⟩ := d4
  simp only at z2 z3
  subst z3
  have hs := Sc.swp (n := n) f (a := d.1.up - 1) (b := d.1.i) (by omega) (by omega) (by omega) (by omega)
  have hq := sq_two (a := d.1.i - d.1.lo) (b := d.1.up - d.1.i) (by omega) (by omega)
  rw [show d.1.i - d.1.lo + (d.1.up - d.1.i) = d.1.up - d.1.lo by omega] at hq
  have q1 := sq_le (lo := d.1.lo) (up := d.1.i - 1) (m := d.1.i - d.1.lo) (by omega) (by omega)
  have q2 := sq_le (lo := d.1.i + 1) (up := d.1.up) (m := d.1.up - d.1.i) (by omega) (by omega)
  have r1 : RO n (d.1.lo, d.1.i - 1) := fun q => ⟨h1, by show d.1.i - 1 ≤ (n : Int); omega⟩
  have r2 : RO n (d.1.i + 1, d.1.up) := fun q => ⟨by show 1 ≤ d.1.i + 1; omega, h2⟩
  by_cases c : d.1.up - d.1.i ≤ d.1.i - d.1.lo
  · rw [if_pos c]
    refine (nrow_ok hd (d := _) z2 r2 (fun r hr => ?_) ?_).via hs
    · rcases List.mem_cons.1 hr with q | q
      · rw [q]; exact r1
      · exact hw r q
    · show sq (d.1.i + 1, d.1.up) + (sq (d.1.lo, d.1.i - 1) + sqs d.1.wt) ≤ L
      omega
  · rw [if_neg c]
    refine (nrow_ok hd (d := _) z2 r1 (fun r hr => ?_) ?_).via hs
    · rcases List.mem_cons.1 hr with q | q
      · rw [q]; exact r2
      · exact hw r q
    · show sq (d.1.lo, d.1.i - 1) + (sq (d.1.i + 1, d.1.up) + sqs d.1.wt) ≤ L
      omega
theorem go_ok (hd : Hd n Gd M) {d : SD} {f : Int → V} (h : M d.2.1 d.2.2 f) (hi : SI n d.1 f) (less : Bool) : Bh n M f (lft d.1) (goR d less) := by
  have hl := hi.lt
  have ho := hi.lo
  have hu := hi.up
  have hmm : (d.1.up - d.1.lo + 1) * (d.1.up - d.1.lo + 1) = (d.1.up - d.1.lo) * (d.1.up - d.1.lo) + 2 * (d.1.up - d.1.lo) + 1 := by
    rw [Int.add_mul, Int.mul_add]
    omega
  have hsq : 0 ≤ (d.1.up - d.1.lo) * (d.1.up - d.1.lo) := Int.mul_nonneg (by omega) (by omega)
  unfold goR
  rcases hi.st with ⟨ea, ex, ey⟩ | ⟨ea, e1, ep, ex, ey⟩ | ⟨ea, e1, ep, ex, ey⟩ | ⟨ea, ev, ex, e1, e2, e3, e4⟩ | ⟨ea, ev, ex, ey, e1, e2, e3, e4⟩
  · rw [if_pos ea]
    have eL : lft d.1 = sqs d.1.wt + ((d.1.up - d.1.lo + 1) * (d.1.up - d.1.lo + 1) - 1) := by unfold lft; rw [ea]; rfl
    rw [eL, hmm]
    unfold endsR
    have hE : ∃ g, Sc n f g ∧ (if less = true then putE d d.1.lo d.1.y d.1.up d.1.x else 0) = 0 ∧ M (if less = true then putD d d.1.lo d.1.y d.1.up d.1.x else d).2.1 (if less = true then putD d d.1.lo d.1.y d.1.up d.1.x else d).2.2 g ∧ (if less = true then putD d d.1.lo d.1.y d.1.up d.1.x else d).1 = d.1 := by
      cases less with
      | false => exact ⟨f, Sc.refl n f, rfl, h, rfl⟩
      | true =>
        obtain ⟨a1, a2, a3⟩ := hd.put (d := d) h (a := d.1.lo) (b := d.1.up) (by omega) (by omega) (by omega) (by omega) ex ey
        exact ⟨_, Sc.swp f (by omega) (by omega) (by omega) (by omega), a1, a2, a3⟩
    obtain ⟨g, hs, b1, b2, b3⟩ := hE
    simp only [b1]
    rw [if_neg (fun q => q rfl)]
    generalize (if less = true then putD d d.1.lo d.1.y d.1.up d.1.x else d) = d1 at *
    obtain ⟨s1, t1⟩ := d1
    simp only at b2 b3
    subst b3
    by_cases c : d.1.up - d.1.lo = 1
    · rw [if_pos c]
      exact (leave_ok hd (d := (d.1, t1)) b2 hi.wt (by simp only; omega)).via hs
    · rw [if_neg c]
      have p1 : 1 ≤ d.1.lo + (d.1.up - d.1.lo) / 2 := by omega
      have p2 : d.1.lo + (d.1.up - d.1.lo) / 2 ≤ (n : Int) := by omega
      obtain ⟨x1, x2, x3⟩ := hd.read (d := ({ d.1 with p := d.1.lo + (d.1.up - d.1.lo) / 2 }, t1)) b2 p1 p2
      obtain ⟨y1, y2, y3⟩ := hd.read (d := rdD ({ d.1 with p := d.1.lo + (d.1.up - d.1.lo) / 2 }, t1) (d.1.lo + (d.1.up - d.1.lo) / 2)) x2 (k := d.1.lo) ho (by omega)
      refine ⟨g, hs, y2, .inl ⟨rfl, rfl, ⟨hi.wt, hl, ho, hu, .inr (.inl ⟨rfl, ?_, rfl, x1, y1⟩)⟩, ?_⟩⟩
      · show d.1.lo + 1 < d.1.up; omega
      · show sqs d.1.wt + (if (2 : Int) ≤ 3 then (d.1.up - d.1.lo + 1) * (d.1.up - d.1.lo + 1) - 2 else _) < _
        rw [if_pos (by omega)]
        omega
  · rw [if_neg (by omega), if_pos ea]
    have eL : lft d.1 = sqs d.1.wt + ((d.1.up - d.1.lo + 1) * (d.1.up - d.1.lo + 1) - 2) := by unfold lft; rw [ea]; rfl
    rw [eL, hmm]
    have p1 : 1 ≤ d.1.p := by omega
    have p2 : d.1.p ≤ (n : Int) := by omega
    unfold lowR
    cases less with
    | true =>
      rw [if_pos rfl]
      obtain ⟨a1, a2, a3⟩ := hd.put (d := d) h (a := d.1.p) (b := d.1.lo) p1 p2 ho (by omega) ex ey
      simp only [a1]
      rw [if_neg (fun q => q rfl)]
      generalize putD d d.1.p d.1.y d.1.lo d.1.x = d1 at *
      obtain ⟨s1, t1⟩ := d1
      simp only at a2 a3
      subst a3
      exact (split_ok hd (d := (d.1, t1)) a2 hi.wt ho hu e1 ep (by simp only; omega)).via (Sc.swp f p1 p2 ho (by omega))
    | false =>
      rw [if_neg (by simp)]
      obtain ⟨x1, x2, x3⟩ := hd.read (d := d) h (k := d.1.up) (by omega) hu
      refine ⟨f, Sc.refl n f, x2, .inl ⟨rfl, rfl, ⟨hi.wt, hl, ho, hu, .inr (.inr (.inl ⟨rfl, e1, ep, ex, x1⟩))⟩, ?_⟩⟩
      show sqs d.1.wt + (if (3 : Int) ≤ 3 then (d.1.up - d.1.lo + 1) * (d.1.up - d.1.lo + 1) - 3 else _) < _
      rw [if_pos (by omega)]
      omega
  · rw [if_neg (by omega), if_neg (by omega), if_pos ea]
    have eL : lft d.1 = sqs d.1.wt + ((d.1.up - d.1.lo + 1) * (d.1.up - d.1.lo + 1) - 3) := by unfold lft; rw [ea]; rfl
    rw [eL, hmm]
    have p1 : 1 ≤ d.1.p := by omega
    have p2 : d.1.p ≤ (n : Int) := by omega
    unfold highR
    cases less with
    | true =>
      rw [if_pos rfl]
      obtain ⟨a1, a2, a3⟩ := hd.put (d := d) h (a := d.1.p) (b := d.1.up) p1 p2 (by omega) hu ex ey
      simp only [a1]
      rw [if_neg (fun q => q rfl)]
      generalize putD d d.1.p d.1.y d.1.up d.1.x = d1 at *
      obtain ⟨s1, t1⟩ := d1
      simp only at a2 a3
      subst a3
      exact (split_ok hd (d := (d.1, t1)) a2 hi.wt ho hu e1 ep (by simp only; omega)).via (Sc.swp f p1 p2 (by omega) hu)
    | false =>
      rw [if_neg (by simp)]
      exact split_ok hd h hi.wt ho hu e1 ep (by omega)
  · rw [if_neg (by omega), if_neg (by omega), if_neg (by omega), if_pos ea]
    have eL : lft d.1 = sqs d.1.wt + ((d.1.up - d.1.lo + 1 - 1) * (d.1.up - d.1.lo + 1 - 1) + (d.1.up - 1 - d.1.i) + (d.1.j - d.1.lo)) := by unfold lft; rw [ea]; rfl
    rw [eL, show d.1.up - d.1.lo + 1 - 1 = d.1.up - d.1.lo by omega]
    unfold risingR
    cases less with
    | true =>
      rw [if_pos rfl]
      by_cases c : d.1.i = d.1.up - 1
      · rw [if_pos c]
        exact ⟨f, Sc.refl n f, h, .inr ⟨15, .inr rfl, rfl, rfl⟩⟩
      · rw [if_neg c]
        exact rise_ok hd h hi.wt ho hu ev (by omega) (by omega) e3 e4 (by omega)
    | false =>
      rw [if_neg (by simp)]
      exact fall_ok hd h hi.wt ho hu ev ex e1 e2 e3 e4 (by omega)
  · rw [if_neg (by omega), if_neg (by omega), if_neg (by omega), if_neg (by omega), if_pos ea]
    have eL : lft d.1 = sqs d.1.wt + ((d.1.up - d.1.lo + 1 - 1) * (d.1.up - d.1.lo + 1 - 1) + (d.1.up - 1 - d.1.i) + (d.1.j - d.1.lo)) := by unfold lft; rw [ea]; rfl
    rw [eL, show d.1.up - d.1.lo + 1 - 1 = d.1.up - d.1.lo by omega]
    unfold fallingR
    cases less with
    | true =>
      rw [if_pos rfl]
      by_cases c : d.1.j < d.1.i
      · rw [if_pos c]
        exact ⟨f, Sc.refl n f, h, .inr ⟨15, .inr rfl, rfl, rfl⟩⟩
      · rw [if_neg c]
        exact fall_ok hd h hi.wt ho hu ev ex e1 e2 (by omega) (by omega) (by omega)
    | false =>
      rw [if_neg (by simp)]
      by_cases c : d.1.j < d.1.i
      · rw [if_pos c]
        exact part_ok hd h hi.wt ho hu e1 e2 (by omega)
      · rw [if_neg c]
        obtain ⟨a1, a2, a3⟩ := hd.put (d := d) h (a := d.1.i) (b := d.1.j) (by omega) (by omega) (by omega) (by omega) ex ey
        simp only [a1]
        rw [if_neg (fun q => q rfl)]
        generalize putD d d.1.i d.1.y d.1.j d.1.x = d1 at *
        obtain ⟨s1, t1⟩ := d1
        simp only at a2 a3
        subst a3
        refine (rise_ok hd (d := (d.1, t1)) a2 hi.wt ho hu ?_ (by simp only; omega) (by simp only; omega) (by simp only; omega) (by simp only; omega) (by simp only; omega)).via (Sc.swp f (by omega) (by omega) (by omega) (by omega))
        show d.1.pv = swp f d.1.i d.1.j (d.1.up - 1)
        rw [swp_at, if_neg (by omega), if_neg (by omega)]
        exact ev
end
end U
end Go.Proofs.YtcaaaoehipcloaaGreat
