/- The walks of afterLow and afterHigh. -/
import Derived.Test.YtcaaaoehipcloaaGreatCg27
import Derived.BigRegion
import Derived.Deep.DeepCutAuto
namespace Go.Proofs.YtcaaaoehipcloaaGreat
open Go.RowKit

theorem low_yes (d : SD) : lowR d true = if putE d d.1.p d.1.y d.1.lo d.1.x ≠ 0 then (endD (d.1, (putD d d.1.p d.1.y d.1.lo d.1.x).2) (putE d d.1.p d.1.y d.1.lo d.1.x), endT (putE d d.1.p d.1.y d.1.lo d.1.x)) else splitR (d.1, (putD d d.1.p d.1.y d.1.lo d.1.x).2) := by
  have e0 : lowR d true = if putE d d.1.p d.1.y d.1.lo d.1.x ≠ 0 then (endD (putD d d.1.p d.1.y d.1.lo d.1.x) (putE d d.1.p d.1.y d.1.lo d.1.x), endT (putE d d.1.p d.1.y d.1.lo d.1.x)) else splitR (putD d d.1.p d.1.y d.1.lo d.1.x) := by unfold lowR; rw [if_pos rfl]
  rw [e0, ← putD_eta]
theorem high_yes (d : SD) : highR d true = if putE d d.1.p d.1.y d.1.up d.1.x ≠ 0 then (endD (d.1, (putD d d.1.p d.1.y d.1.up d.1.x).2) (putE d d.1.p d.1.y d.1.up d.1.x), endT (putE d d.1.p d.1.y d.1.up d.1.x)) else splitR (d.1, (putD d d.1.p d.1.y d.1.up d.1.x).2) := by
  have e0 : highR d true = if putE d d.1.p d.1.y d.1.up d.1.x ≠ 0 then (endD (putD d d.1.p d.1.y d.1.up d.1.x) (putE d d.1.p d.1.y d.1.up d.1.x), endT (putE d d.1.p d.1.y d.1.up d.1.x)) else splitR (putD d d.1.p d.1.y d.1.up d.1.x) := by unfold highR; rw [if_pos rfl]
  rw [e0, ← putD_eta]
set_option maxRecDepth 20000 in
set_option maxHeartbeats 4000000 in
theorem low_y {No : Nat → Prop} {w : World} {B : Nat} {wv : Value} {T A b a S hb c : Nat} {d : SD} (h : So No w B wv T A b a S hb c d) (hc : c ≤ 400000) (b1 : -2305843009213693952 ≤ d.1.lo) (b2 : d.1.lo ≤ 2305843009213693952) (b3 : -2305843009213693952 ≤ d.1.up) (b4 : d.1.up ≤ 2305843009213693952) (b5 : -2305843009213693952 ≤ d.1.p) (b6 : d.1.p ≤ 2305843009213693952) (hr : ∀ r ∈ d.1.wt, r.1 < r.2 → -4611686018427387904 ≤ r.1 ∧ r.2 ≤ 4611686018427387904) :
    Calls Tryz.prog 44 #[.pointer (some ⟨B, 0, none⟩), .bool true] w (GP No w B T S hb (c + 31) (lowR d true)) := by
  obtain ⟨N2, s0, HF0⟩ := h.tell2
  have HF : Hid _ := HF0
  obtain ⟨W0, hW0⟩ : ∃ W0, w.alloc z8 = W0 := ⟨_, rfl⟩
  rw [hW0] at HF s0
  unfold z8 at hW0
  clear HF0
  have a1 : W0.cell? ⟨B, 1, none⟩ = some (.int .i64 d.1.lo) := s0.so.cell (j := 1) rfl
  have a2 : W0.cell? ⟨B, 2, none⟩ = some (.int .i64 d.1.up) := s0.so.cell (j := 2) rfl
  have a5 : W0.cell? ⟨B, 5, none⟩ = some (.int .i64 d.1.p) := s0.so.cell (j := 5) rfl
  have a6 : W0.cell? ⟨B, 6, none⟩ = some (.int .i64 d.1.i) := s0.so.cell (j := 6) rfl
  have a7 : W0.cell? ⟨B, 7, none⟩ = some (.int .i64 d.1.j) := s0.so.cell (j := 7) rfl
  have a8 : W0.cell? ⟨B, 8, none⟩ = some (.int .i64 d.1.x.1) := s0.so.cell (j := 8) rfl
  have a9 : W0.cell? ⟨B, 9, none⟩ = some (.int .i64 d.1.x.2.1) := s0.so.cell (j := 9) rfl
  have a10 : W0.cell? ⟨B, 10, none⟩ = some (.string d.1.x.2.2) := s0.so.cell (j := 10) rfl
  have a11 : W0.cell? ⟨B, 11, none⟩ = some (.int .i64 d.1.y.1) := s0.so.cell (j := 11) rfl
  have a12 : W0.cell? ⟨B, 12, none⟩ = some (.int .i64 d.1.y.2.1) := s0.so.cell (j := 12) rfl
  have a13 : W0.cell? ⟨B, 13, none⟩ = some (.string d.1.y.2.2) := s0.so.cell (j := 13) rfl
  have a14 : W0.cell? ⟨B, 14, none⟩ = some (.int .i64 d.1.pv.1) := s0.so.cell (j := 14) rfl
  have a15 : W0.cell? ⟨B, 15, none⟩ = some (.int .i64 d.1.pv.2.1) := s0.so.cell (j := 15) rfl
  have a16 : W0.cell? ⟨B, 16, none⟩ = some (.string d.1.pv.2.2) := s0.so.cell (j := 16) rfl
  obtain ⟨R, hR⟩ : ∃ R, lowR d true = R := ⟨_, rfl⟩
  rw [hR]
  unfold GP
  rw [low_yes] at hR
  have C5 := s0.pu0 (bdrew1 W0) (by omega) (d.1.p) (d.1.lo) d.1.y d.1.x (by omega) (by omega) (by omega) (by omega)
  obtain ⟨E, hE⟩ : ∃ E, putE (d) (d.1.p) (d.1.y) (d.1.lo) (d.1.x) = E := ⟨_, rfl⟩
  obtain ⟨P2, hP2⟩ : ∃ P2, (putD (d) (d.1.p) (d.1.y) (d.1.lo) (d.1.x)).2 = P2 := ⟨_, rfl⟩
  rw [hE, hP2] at C5 hR
  clear hE hP2 h s0
  by_cases hE0 : E = 0
  · subst hE0
    rw [if_neg (by simp)] at hR
    have HR : Hid (_ = R) := hR
    clear hR
    go_enter Tryz.func44, Tryz.ntmps44
    go_wp2_with fail
    refine wp_tail 18 (by kernel_rfl) (by kernel_rfl) ?_
    simp only [List.take_succ_cons, List.take_zero, List.drop_succ_cons, List.drop_zero]
    repeat still_step
    refine wpStill_nil ?_
    go_wp2_with fail
    refine C5.mono ?_
    rintro e w5 ⟨rfl, A5, B5, a5, k5⟩
    have C8 := k5.of0 (f := 72) (xs := #[.pointer (some ⟨B, 0, none⟩)]) (bself w5) (fun q => split_any q (by omega) b1 b2 b3 b4 b5 b6 hr)
    rw [HR.out] at C8
    clear HR k5 C5
    go_wp2_with fail
    refine (C8).mono ?_
    rintro e w4 ⟨rfl, wv4, A4, b4, a4, s4⟩
    obtain ⟨r4, r5, s5, k5⟩ := HF.out w4 wv4 A4 b4 a4 _ _ R.2 s4
    have HZ : Hid (_ ∧ _ ∧ _) := ⟨r5, s5, k5⟩
    obtain ⟨tl, htl⟩ : ∃ tl, R.2 = tl := ⟨_, rfl⟩
    rw [htl] at HZ ⊢
    obtain ⟨W5, hW5⟩ : ∃ W5, set8 w4 w.heap.size tl = W5 := ⟨_, rfl⟩
    rw [hW5] at HZ
    unfold set8 at hW5
    unfold tolV
    obtain ⟨n0, n1, n2, n3, n4, n5, n6, n7⟩ := r4.eight
    simp only [nil] at n0 n1 n2 n3 n4 n5 n6 n7
    have nf := fun j => r4.free j
    clear r4 r5 s5 k5 s4 HF C8
    go_wp2
    obtain ⟨q1, q2, q3⟩ := HZ.out
    obtain ⟨r0, r1, r2, r3, r4, r5, r6, r7⟩ := q1.eight
    exact bodyPost_ret (v := tolV tl) (by simp [results, Tryz.results44, go_sem, r0, r1, r2, r3, r4, r5, r6, r7, tolV]) rfl ⟨by first | rfl | rw [htl], ⟨_, _, _, _, q2.more (by omega)⟩, q3⟩
  · have hE' : (E != 0) = true := by simpa using hE0
    rw [if_pos hE0] at hR
    have HR : Hid (_ = R) := hR
    clear hR
    go_enter Tryz.func44, Tryz.ntmps44
    go_wp2_with fail
    refine wp_tail 18 (by kernel_rfl) (by kernel_rfl) ?_
    simp only [List.take_succ_cons, List.take_zero, List.drop_succ_cons, List.drop_zero]
    repeat still_step
    refine wpStill_nil ?_
    go_wp2_with fail
    refine C5.mono ?_
    rintro e w5 ⟨rfl, A5, B5, a5, k5⟩
    have C8 := k5.en0 (bself w5) E
    rw [HR.out] at C8
    clear HR k5 C5 hE0
    go_wp2_with fail
    refine (C8).mono ?_
    rintro e w4 ⟨rfl, wv4, A4, b4, a4, s4⟩
    obtain ⟨r4, r5, s5, k5⟩ := HF.out w4 wv4 A4 b4 a4 _ _ R.2 s4
    have HZ : Hid (_ ∧ _ ∧ _) := ⟨r5, s5, k5⟩
    obtain ⟨tl, htl⟩ : ∃ tl, R.2 = tl := ⟨_, rfl⟩
    rw [htl] at HZ ⊢
    obtain ⟨W5, hW5⟩ : ∃ W5, set8 w4 w.heap.size tl = W5 := ⟨_, rfl⟩
    rw [hW5] at HZ
    unfold set8 at hW5
    unfold tolV
    obtain ⟨n0, n1, n2, n3, n4, n5, n6, n7⟩ := r4.eight
    simp only [nil] at n0 n1 n2 n3 n4 n5 n6 n7
    have nf := fun j => r4.free j
    clear r4 r5 s5 k5 s4 HF C8
    go_wp2
    obtain ⟨q1, q2, q3⟩ := HZ.out
    obtain ⟨r0, r1, r2, r3, r4, r5, r6, r7⟩ := q1.eight
    exact bodyPost_ret (v := tolV tl) (by simp [results, Tryz.results44, go_sem, r0, r1, r2, r3, r4, r5, r6, r7, tolV]) rfl ⟨by first | rfl | rw [htl], ⟨_, _, _, _, q2.more (by omega)⟩, q3⟩
set_option maxRecDepth 20000 in
set_option maxHeartbeats 4000000 in
theorem high_y {No : Nat → Prop} {w : World} {B : Nat} {wv : Value} {T A b a S hb c : Nat} {d : SD} (h : So No w B wv T A b a S hb c d) (hc : c ≤ 400000) (b1 : -2305843009213693952 ≤ d.1.lo) (b2 : d.1.lo ≤ 2305843009213693952) (b3 : -2305843009213693952 ≤ d.1.up) (b4 : d.1.up ≤ 2305843009213693952) (b5 : -2305843009213693952 ≤ d.1.p) (b6 : d.1.p ≤ 2305843009213693952) (hr : ∀ r ∈ d.1.wt, r.1 < r.2 → -4611686018427387904 ≤ r.1 ∧ r.2 ≤ 4611686018427387904) :
    Calls Tryz.prog 45 #[.pointer (some ⟨B, 0, none⟩), .bool true] w (GP No w B T S hb (c + 31) (highR d true)) := by
  obtain ⟨N2, s0, HF0⟩ := h.tell2
  have HF : Hid _ := HF0
  obtain ⟨W0, hW0⟩ : ∃ W0, w.alloc z8 = W0 := ⟨_, rfl⟩
  rw [hW0] at HF s0
  unfold z8 at hW0
  clear HF0
  have a1 : W0.cell? ⟨B, 1, none⟩ = some (.int .i64 d.1.lo) := s0.so.cell (j := 1) rfl
  have a2 : W0.cell? ⟨B, 2, none⟩ = some (.int .i64 d.1.up) := s0.so.cell (j := 2) rfl
  have a5 : W0.cell? ⟨B, 5, none⟩ = some (.int .i64 d.1.p) := s0.so.cell (j := 5) rfl
  have a6 : W0.cell? ⟨B, 6, none⟩ = some (.int .i64 d.1.i) := s0.so.cell (j := 6) rfl
  have a7 : W0.cell? ⟨B, 7, none⟩ = some (.int .i64 d.1.j) := s0.so.cell (j := 7) rfl
  have a8 : W0.cell? ⟨B, 8, none⟩ = some (.int .i64 d.1.x.1) := s0.so.cell (j := 8) rfl
  have a9 : W0.cell? ⟨B, 9, none⟩ = some (.int .i64 d.1.x.2.1) := s0.so.cell (j := 9) rfl
  have a10 : W0.cell? ⟨B, 10, none⟩ = some (.string d.1.x.2.2) := s0.so.cell (j := 10) rfl
  have a11 : W0.cell? ⟨B, 11, none⟩ = some (.int .i64 d.1.y.1) := s0.so.cell (j := 11) rfl
  have a12 : W0.cell? ⟨B, 12, none⟩ = some (.int .i64 d.1.y.2.1) := s0.so.cell (j := 12) rfl
  have a13 : W0.cell? ⟨B, 13, none⟩ = some (.string d.1.y.2.2) := s0.so.cell (j := 13) rfl
  have a14 : W0.cell? ⟨B, 14, none⟩ = some (.int .i64 d.1.pv.1) := s0.so.cell (j := 14) rfl
  have a15 : W0.cell? ⟨B, 15, none⟩ = some (.int .i64 d.1.pv.2.1) := s0.so.cell (j := 15) rfl
  have a16 : W0.cell? ⟨B, 16, none⟩ = some (.string d.1.pv.2.2) := s0.so.cell (j := 16) rfl
  obtain ⟨R, hR⟩ : ∃ R, highR d true = R := ⟨_, rfl⟩
  rw [hR]
  unfold GP
  rw [high_yes] at hR
  have C5 := s0.pu0 (bdrew1 W0) (by omega) (d.1.p) (d.1.up) d.1.y d.1.x (by omega) (by omega) (by omega) (by omega)
  obtain ⟨E, hE⟩ : ∃ E, putE (d) (d.1.p) (d.1.y) (d.1.up) (d.1.x) = E := ⟨_, rfl⟩
  obtain ⟨P2, hP2⟩ : ∃ P2, (putD (d) (d.1.p) (d.1.y) (d.1.up) (d.1.x)).2 = P2 := ⟨_, rfl⟩
  rw [hE, hP2] at C5 hR
  clear hE hP2 h s0
  by_cases hE0 : E = 0
  · subst hE0
    rw [if_neg (by simp)] at hR
    have HR : Hid (_ = R) := hR
    clear hR
    go_enter Tryz.func45, Tryz.ntmps45
    go_wp2_with fail
    refine wp_tail 18 (by kernel_rfl) (by kernel_rfl) ?_
    simp only [List.take_succ_cons, List.take_zero, List.drop_succ_cons, List.drop_zero]
    repeat still_step
    refine wpStill_nil ?_
    go_wp2_with fail
    refine C5.mono ?_
    rintro e w5 ⟨rfl, A5, B5, a5, k5⟩
    have C8 := k5.of0 (f := 72) (xs := #[.pointer (some ⟨B, 0, none⟩)]) (bself w5) (fun q => split_any q (by omega) b1 b2 b3 b4 b5 b6 hr)
    rw [HR.out] at C8
    clear HR k5 C5
    go_wp2_with fail
    refine (C8).mono ?_
    rintro e w4 ⟨rfl, wv4, A4, b4, a4, s4⟩
    obtain ⟨r4, r5, s5, k5⟩ := HF.out w4 wv4 A4 b4 a4 _ _ R.2 s4
    have HZ : Hid (_ ∧ _ ∧ _) := ⟨r5, s5, k5⟩
    obtain ⟨tl, htl⟩ : ∃ tl, R.2 = tl := ⟨_, rfl⟩
    rw [htl] at HZ ⊢
    obtain ⟨W5, hW5⟩ : ∃ W5, set8 w4 w.heap.size tl = W5 := ⟨_, rfl⟩
    rw [hW5] at HZ
    unfold set8 at hW5
    unfold tolV
    obtain ⟨n0, n1, n2, n3, n4, n5, n6, n7⟩ := r4.eight
    simp only [nil] at n0 n1 n2 n3 n4 n5 n6 n7
    have nf := fun j => r4.free j
    clear r4 r5 s5 k5 s4 HF C8
    go_wp2
    obtain ⟨q1, q2, q3⟩ := HZ.out
    obtain ⟨r0, r1, r2, r3, r4, r5, r6, r7⟩ := q1.eight
    exact bodyPost_ret (v := tolV tl) (by simp [results, Tryz.results45, go_sem, r0, r1, r2, r3, r4, r5, r6, r7, tolV]) rfl ⟨by first | rfl | rw [htl], ⟨_, _, _, _, q2.more (by omega)⟩, q3⟩
  · have hE' : (E != 0) = true := by simpa using hE0
    rw [if_pos hE0] at hR
    have HR : Hid (_ = R) := hR
    clear hR
    go_enter Tryz.func45, Tryz.ntmps45
    go_wp2_with fail
    refine wp_tail 18 (by kernel_rfl) (by kernel_rfl) ?_
    simp only [List.take_succ_cons, List.take_zero, List.drop_succ_cons, List.drop_zero]
    repeat still_step
    refine wpStill_nil ?_
    go_wp2_with fail
    refine C5.mono ?_
    rintro e w5 ⟨rfl, A5, B5, a5, k5⟩
    have C8 := k5.en0 (bself w5) E
    rw [HR.out] at C8
    clear HR k5 C5 hE0
    go_wp2_with fail
    refine (C8).mono ?_
    rintro e w4 ⟨rfl, wv4, A4, b4, a4, s4⟩
    obtain ⟨r4, r5, s5, k5⟩ := HF.out w4 wv4 A4 b4 a4 _ _ R.2 s4
    have HZ : Hid (_ ∧ _ ∧ _) := ⟨r5, s5, k5⟩
    obtain ⟨tl, htl⟩ : ∃ tl, R.2 = tl := ⟨_, rfl⟩
    rw [htl] at HZ ⊢
    obtain ⟨W5, hW5⟩ : ∃ W5, set8 w4 w.heap.size tl = W5 := ⟨_, rfl⟩
    rw [hW5] at HZ
    unfold set8 at hW5
    unfold tolV
    obtain ⟨n0, n1, n2, n3, n4, n5, n6, n7⟩ := r4.eight
    simp only [nil] at n0 n1 n2 n3 n4 n5 n6 n7
    have nf := fun j => r4.free j
    clear r4 r5 s5 k5 s4 HF C8
    go_wp2
    obtain ⟨q1, q2, q3⟩ := HZ.out
    obtain ⟨r0, r1, r2, r3, r4, r5, r6, r7⟩ := q1.eight
    exact bodyPost_ret (v := tolV tl) (by simp [results, Tryz.results45, go_sem, r0, r1, r2, r3, r4, r5, r6, r7, tolV]) rfl ⟨by first | rfl | rw [htl], ⟨_, _, _, _, q2.more (by omega)⟩, q3⟩
set_option maxRecDepth 20000 in
set_option maxHeartbeats 4000000 in
theorem low_n {No : Nat → Prop} {w : World} {B : Nat} {wv : Value} {T A b a S hb c : Nat} {d : SD} (h : So No w B wv T A b a S hb c d) (hc : c ≤ 400000) (b3 : -2305843009213693952 ≤ d.1.up) (b4 : d.1.up ≤ 2305843009213693952) :
    Calls Tryz.prog 44 #[.pointer (some ⟨B, 0, none⟩), .bool false] w (GP No w B T S hb (c + 31) (lowR d false)) := by
  obtain ⟨N2, s0, HF0⟩ := h.tell2
  have HF : Hid _ := HF0
  obtain ⟨W0, hW0⟩ : ∃ W0, w.alloc z8 = W0 := ⟨_, rfl⟩
  rw [hW0] at HF s0
  unfold z8 at hW0
  clear HF0
  have a1 : W0.cell? ⟨B, 1, none⟩ = some (.int .i64 d.1.lo) := s0.so.cell (j := 1) rfl
  have a2 : W0.cell? ⟨B, 2, none⟩ = some (.int .i64 d.1.up) := s0.so.cell (j := 2) rfl
  have a5 : W0.cell? ⟨B, 5, none⟩ = some (.int .i64 d.1.p) := s0.so.cell (j := 5) rfl
  have a6 : W0.cell? ⟨B, 6, none⟩ = some (.int .i64 d.1.i) := s0.so.cell (j := 6) rfl
  have a7 : W0.cell? ⟨B, 7, none⟩ = some (.int .i64 d.1.j) := s0.so.cell (j := 7) rfl
  obtain ⟨R, hR⟩ : ∃ R, lowR d false = R := ⟨_, rfl⟩
  rw [hR]
  unfold GP
  have C1 := s0.rd0 (by omega) d.1.up (by omega) (by omega)
  obtain ⟨y, hy⟩ : ∃ y, rdV d d.1.up = y := ⟨_, rfl⟩
  rw [hy] at C1
  have HR : Hid ((askD ({ d.1 with y := y }, (rdD d d.1.up).2) 3, askT y d.1.x) = R) := by rw [← hR, ← hy]; rfl
  clear h s0 hR hy
  go_enter Tryz.func44, Tryz.ntmps44
  go_wp2_with fail
  refine C1.mono ?_
  rintro e w2 ⟨rfl, k2⟩
  have d11 : w2.cell? ⟨B, 11, none⟩ = some (.int .i64 d.1.y.1) := k2.so.cell (j := 11) rfl
  have d12 : w2.cell? ⟨B, 12, none⟩ = some (.int .i64 d.1.y.2.1) := k2.so.cell (j := 12) rfl
  have d13 : w2.cell? ⟨B, 13, none⟩ = some (.string d.1.y.2.2) := k2.so.cell (j := 13) rfl
  have dfz := k2.so.free
  have s3 := k2.st3 11 y { d.1 with y := y } rfl rfl
  obtain ⟨W3, hW3⟩ : ∃ W3, stX w2 B 11 y = W3 := ⟨_, rfl⟩
  rw [hW3] at s3
  unfold stX at hW3
  have e8 : W3.cell? ⟨B, 8, none⟩ = some (.int .i64 d.1.x.1) := s3.so.cell (j := 8) rfl
  have e9 : W3.cell? ⟨B, 9, none⟩ = some (.int .i64 d.1.x.2.1) := s3.so.cell (j := 9) rfl
  have e10 : W3.cell? ⟨B, 10, none⟩ = some (.string d.1.x.2.2) := s3.so.cell (j := 10) rfl
  have e11 : W3.cell? ⟨B, 11, none⟩ = some (.int .i64 y.1) := s3.so.cell (j := 11) rfl
  have e12 : W3.cell? ⟨B, 12, none⟩ = some (.int .i64 y.2.1) := s3.so.cell (j := 12) rfl
  have e13 : W3.cell? ⟨B, 13, none⟩ = some (.string y.2.2) := s3.so.cell (j := 13) rfl
  have CA := s3.askw (bdrew1 W3) 3 y d.1.x
  simp only at CA
  rw [HR.out] at CA
  clear HR s3 k2 C1 a1 a2 a5 a6 a7
  go_wp2_with fail
  refine wp_tail 9 (by kernel_rfl) (by kernel_rfl) ?_
  simp only [List.take_succ_cons, List.take_zero, List.drop_succ_cons, List.drop_zero]
  repeat still_step
  refine wpStill_nil ?_
  go_wp2_with fail
  refine (CA).mono ?_
  rintro e w4 ⟨rfl, wv4, A4, b4, a4, s4⟩
  obtain ⟨r4, r5, s5, k5⟩ := HF.out w4 wv4 A4 b4 a4 _ _ R.2 s4
  have HZ : Hid (_ ∧ _ ∧ _) := ⟨r5, s5, k5⟩
  obtain ⟨tl, htl⟩ : ∃ tl, R.2 = tl := ⟨_, rfl⟩
  rw [htl] at HZ ⊢
  obtain ⟨W5, hW5⟩ : ∃ W5, set8 w4 w.heap.size tl = W5 := ⟨_, rfl⟩
  rw [hW5] at HZ
  unfold set8 at hW5
  unfold tolV
  obtain ⟨n0, n1, n2, n3, n4, n5, n6, n7⟩ := r4.eight
  simp only [nil] at n0 n1 n2 n3 n4 n5 n6 n7
  have nf := fun j => r4.free j
  clear r4 r5 s5 k5 s4 HF CA
  go_wp2
  obtain ⟨q1, q2, q3⟩ := HZ.out
  obtain ⟨r0, r1, r2, r3, r4, r5, r6, r7⟩ := q1.eight
  exact bodyPost_ret (v := tolV tl) (by simp [results, Tryz.results44, go_sem, r0, r1, r2, r3, r4, r5, r6, r7, tolV]) rfl ⟨by first | rfl | rw [htl], ⟨_, _, _, _, q2.more (by omega)⟩, q3⟩
set_option maxRecDepth 20000 in
set_option maxHeartbeats 4000000 in
theorem high_n {No : Nat → Prop} {w : World} {B : Nat} {wv : Value} {T A b a S hb c : Nat} {d : SD} (h : So No w B wv T A b a S hb c d) (hc : c ≤ 400000) (b1 : -2305843009213693952 ≤ d.1.lo) (b2 : d.1.lo ≤ 2305843009213693952) (b3 : -2305843009213693952 ≤ d.1.up) (b4 : d.1.up ≤ 2305843009213693952) (b5 : -2305843009213693952 ≤ d.1.p) (b6 : d.1.p ≤ 2305843009213693952) (hr : ∀ r ∈ d.1.wt, r.1 < r.2 → -4611686018427387904 ≤ r.1 ∧ r.2 ≤ 4611686018427387904) :
    Calls Tryz.prog 45 #[.pointer (some ⟨B, 0, none⟩), .bool false] w (GP No w B T S hb (c + 31) (highR d false)) := by
  obtain ⟨N2, s0, HF0⟩ := h.tell2
  have HF : Hid _ := HF0
  obtain ⟨W0, hW0⟩ : ∃ W0, w.alloc z8 = W0 := ⟨_, rfl⟩
  rw [hW0] at HF s0
  unfold z8 at hW0
  clear HF0
  have C := s0.of0 (f := 72) (xs := #[.pointer (some ⟨B, 0, none⟩)]) (bself W0) (fun q => split_any q (by omega) b1 b2 b3 b4 b5 b6 hr)
  obtain ⟨R, hR⟩ : ∃ R, highR d false = R := ⟨_, rfl⟩
  have hR' : splitR d = R := hR
  rw [hR]
  rw [hR'] at C
  unfold GP
  clear h s0 hR hR' hr
  go_enter Tryz.func45, Tryz.ntmps45
  go_wp2_with fail
  refine (C).mono ?_
  rintro e w4 ⟨rfl, wv4, A4, b4, a4, s4⟩
  obtain ⟨r4, r5, s5, k5⟩ := HF.out w4 wv4 A4 b4 a4 _ _ R.2 s4
  have HZ : Hid (_ ∧ _ ∧ _) := ⟨r5, s5, k5⟩
  obtain ⟨tl, htl⟩ : ∃ tl, R.2 = tl := ⟨_, rfl⟩
  rw [htl] at HZ ⊢
  obtain ⟨W5, hW5⟩ : ∃ W5, set8 w4 w.heap.size tl = W5 := ⟨_, rfl⟩
  rw [hW5] at HZ
  unfold set8 at hW5
  unfold tolV
  obtain ⟨n0, n1, n2, n3, n4, n5, n6, n7⟩ := r4.eight
  simp only [nil] at n0 n1 n2 n3 n4 n5 n6 n7
  have nf := fun j => r4.free j
  clear r4 r5 s5 k5 s4 HF C
  go_wp2
  obtain ⟨q1, q2, q3⟩ := HZ.out
  obtain ⟨r0, r1, r2, r3, r4, r5, r6, r7⟩ := q1.eight
  exact bodyPost_ret (v := tolV tl) (by simp [results, Tryz.results45, go_sem, r0, r1, r2, r3, r4, r5, r6, r7, tolV]) rfl ⟨by first | rfl | rw [htl], ⟨_, _, _, _, q2.more (by omega)⟩, q3⟩
end Go.Proofs.YtcaaaoehipcloaaGreat
