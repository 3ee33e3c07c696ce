/- The walk of afterEnds: less. -/
import Derived.Test.YtcaaaoehipcloaaGreatCg21
import Derived.BigRegion
import Derived.Deep.DeepCutAuto
namespace Go.Proofs.YtcaaaoehipcloaaGreat
open Go.RowKit

set_option maxRecDepth 20000 in
set_option maxHeartbeats 4000000 in
theorem ends_y {No : Nat → Prop} {w : World} {B : Nat} {wv : Value} {T A b a S hb c : Nat} {d : SD} (h : So No w B wv T A b a S hb c d) (hc : c ≤ 400000) (b1 : -2305843009213693952 ≤ d.1.lo) (b2 : d.1.lo ≤ 2305843009213693952) (b3 : -2305843009213693952 ≤ d.1.up) (b4 : d.1.up ≤ 2305843009213693952) (hlt : d.1.lo < d.1.up) (hr : ∀ r ∈ d.1.wt, r.1 < r.2 → -4611686018427387904 ≤ r.1 ∧ r.2 ≤ 4611686018427387904) :
    Calls Tryz.prog 43 #[.pointer (some ⟨B, 0, none⟩), .bool true] w (GP No w B T S hb (c + 31) (endsR d true)) := by
  obtain ⟨N2, s0, HF0⟩ := h.tell2
  have HF : Hid _ := HF0
  obtain ⟨W0, hW0⟩ : ∃ W0, w.alloc z8 = W0 := ⟨_, rfl⟩
  rw [hW0] at HF s0
  unfold z8 at hW0
  clear HF0
  have a1 : W0.cell? ⟨B, 1, none⟩ = some (.int .i64 d.1.lo) := s0.so.cell (j := 1) rfl
  have a2 : W0.cell? ⟨B, 2, none⟩ = some (.int .i64 d.1.up) := s0.so.cell (j := 2) rfl
  have a5 : W0.cell? ⟨B, 5, none⟩ = some (.int .i64 d.1.p) := s0.so.cell (j := 5) rfl
  have a6 : W0.cell? ⟨B, 6, none⟩ = some (.int .i64 d.1.i) := s0.so.cell (j := 6) rfl
  have a7 : W0.cell? ⟨B, 7, none⟩ = some (.int .i64 d.1.j) := s0.so.cell (j := 7) rfl
  have a8 : W0.cell? ⟨B, 8, none⟩ = some (.int .i64 d.1.x.1) := s0.so.cell (j := 8) rfl
  have a9 : W0.cell? ⟨B, 9, none⟩ = some (.int .i64 d.1.x.2.1) := s0.so.cell (j := 9) rfl
  have a10 : W0.cell? ⟨B, 10, none⟩ = some (.string d.1.x.2.2) := s0.so.cell (j := 10) rfl
  have a11 : W0.cell? ⟨B, 11, none⟩ = some (.int .i64 d.1.y.1) := s0.so.cell (j := 11) rfl
  have a12 : W0.cell? ⟨B, 12, none⟩ = some (.int .i64 d.1.y.2.1) := s0.so.cell (j := 12) rfl
  have a13 : W0.cell? ⟨B, 13, none⟩ = some (.string d.1.y.2.2) := s0.so.cell (j := 13) rfl
  have a14 : W0.cell? ⟨B, 14, none⟩ = some (.int .i64 d.1.pv.1) := s0.so.cell (j := 14) rfl
  have a15 : W0.cell? ⟨B, 15, none⟩ = some (.int .i64 d.1.pv.2.1) := s0.so.cell (j := 15) rfl
  have a16 : W0.cell? ⟨B, 16, none⟩ = some (.string d.1.pv.2.2) := s0.so.cell (j := 16) rfl
  have wl : IntKind.i64.wrap (d.1.up - d.1.lo) = d.1.up - d.1.lo := by rw [IntKind.wrap_i64]; omega
  obtain ⟨R, hR⟩ : ∃ R, endsR d true = R := ⟨_, rfl⟩
  rw [hR]
  unfold GP
  rw [ends_yes] at hR
  have C5 := s0.pu0 (bdrew1 W0) (by omega) (d.1.lo) (d.1.up) d.1.y d.1.x (by omega) (by omega) (by omega) (by omega)
  obtain ⟨E, hE⟩ : ∃ E, putE (d) (d.1.lo) (d.1.y) (d.1.up) (d.1.x) = E := ⟨_, rfl⟩
  obtain ⟨P2, hP2⟩ : ∃ P2, (putD (d) (d.1.lo) (d.1.y) (d.1.up) (d.1.x)).2 = P2 := ⟨_, rfl⟩
  rw [hE, hP2] at C5 hR
  clear hE hP2 h s0
  by_cases hE0 : E = 0
  · subst hE0
    rw [if_neg (by simp)] at hR
    have HR : Hid (_ = R) := hR
    clear hR
    go_enter Tryz.func43, Tryz.ntmps43
    go_wp2_with fail
    refine wp_tail 19 (by kernel_rfl) (by kernel_rfl) ?_
    simp only [List.take_succ_cons, List.take_zero, List.drop_succ_cons, List.drop_zero]
    repeat still_step
    refine wpStill_nil ?_
    go_wp2_with fail
    refine C5.mono ?_
    rintro e w5 ⟨rfl, A5, B5, D5, k5⟩
    have hT : endsT (d.1, P2) = R := HR.out
    clear HR C5 a1 a2 a5 a6 a7 a8 a9 a10 a11 a12 a13 a14 a15 a16
    have g1 : w5.cell? ⟨B, 1, none⟩ = some (.int .i64 d.1.lo) := k5.so.cell (j := 1) rfl
    have g2 : w5.cell? ⟨B, 2, none⟩ = some (.int .i64 d.1.up) := k5.so.cell (j := 2) rfl
    have g5 : w5.cell? ⟨B, 5, none⟩ = some (.int .i64 d.1.p) := k5.so.cell (j := 5) rfl
    have g6 : w5.cell? ⟨B, 6, none⟩ = some (.int .i64 d.1.i) := k5.so.cell (j := 6) rfl
    have g7 : w5.cell? ⟨B, 7, none⟩ = some (.int .i64 d.1.j) := k5.so.cell (j := 7) rfl
    by_cases h1 : d.1.up - d.1.lo = 1
    · have C := fun m => (k5.drewN m).of0 (f := 69) (xs := #[.pointer (some ⟨B, 0, none⟩)]) (bself _) (fun q => leave_any q (by omega) hr)
      have eR : leaveR (d.1, P2) = R := (ends_one (d1 := (d.1, P2)) h1).symm.trans hT
      rw [eR] at C
      have h1' : (d.1.up - d.1.lo == 1) = true := by simpa using h1
      clear k5 hT eR hr h1
      go_wp2_with fail
      go_quiet (fail)
      go_wp2_with fail
      refine (C _).mono ?_
      rintro e w4 ⟨rfl, wv4, A4, b4, a4, s4⟩
      obtain ⟨r4, r5, s5, k5⟩ := HF.out w4 wv4 A4 b4 a4 _ _ R.2 s4
      have HZ : Hid (_ ∧ _ ∧ _) := ⟨r5, s5, k5⟩
      obtain ⟨tl, htl⟩ : ∃ tl, R.2 = tl := ⟨_, rfl⟩
      rw [htl] at HZ ⊢
      obtain ⟨W5, hW5⟩ : ∃ W5, set8 w4 w.heap.size tl = W5 := ⟨_, rfl⟩
      rw [hW5] at HZ
      unfold set8 at hW5
      unfold tolV
      obtain ⟨n0, n1, n2, n3, n4, n5, n6, n7⟩ := r4.eight
      simp only [nil] at n0 n1 n2 n3 n4 n5 n6 n7
      have nf := fun j => r4.free j
      clear r4 r5 s5 k5 s4 HF C
      go_wp2
      obtain ⟨q1, q2, q3⟩ := HZ.out
      obtain ⟨r0, r1, r2, r3, r4, r5, r6, r7⟩ := q1.eight
      exact bodyPost_ret (v := tolV tl) (by simp [results, Tryz.results43, go_sem, r0, r1, r2, r3, r4, r5, r6, r7, tolV]) rfl ⟨by first | rfl | rw [htl], ⟨_, _, _, _, q2.more (by omega)⟩, q3⟩
    · have h1' : (d.1.up - d.1.lo == 1) = false := by simpa using h1
      have HT0 := ends_two (d1 := (d.1, P2)) h1
      obtain ⟨pp, hpp⟩ : ∃ pp, d.1.lo + (d.1.up - d.1.lo) / 2 = pp := ⟨_, rfl⟩
      have hpb : -2305843009213693952 ≤ pp ∧ pp ≤ 2305843009213693952 := by omega
      have hq : (d.1.up - d.1.lo).tdiv 2 = (d.1.up - d.1.lo) / 2 := Int.tdiv_eq_ediv_of_nonneg (by omega)
      have wp' : IntKind.i64.wrap ((d.1.up - d.1.lo).tdiv 2) = (d.1.up - d.1.lo) / 2 := by rw [hq, IntKind.wrap_i64]; omega
      have wq : IntKind.i64.wrap (d.1.lo + (d.1.up - d.1.lo) / 2) = pp := by rw [IntKind.wrap_i64]; omega
      simp only [hpp] at HT0
      have HT : Hid (_ = R) := HT0.symm.trans hT
      clear hT HT0 h1
      go_wp2_with fail
      go_quiet (fail)
      go_wp2_with fail
      have s7 := (k5.drewN (nq + 1)).st1 5 pp { d.1 with p := pp } rfl rfl
      have f7 := k5.so.free
      obtain ⟨W7, hW7⟩ : ∃ W7, (w5.drewN (nq + 1)).setCell ⟨B, 5, none⟩ (.int .i64 pp) = W7 := ⟨_, rfl⟩
      rw [hW7] at s7
      go_region
      go_wp2_with fail
      have h1 : W7.cell? ⟨B, 1, none⟩ = some (.int .i64 ({ d.1 with p := pp } : SS).lo) := s7.so.cell (j := 1) rfl
      have h2 : W7.cell? ⟨B, 2, none⟩ = some (.int .i64 ({ d.1 with p := pp } : SS).up) := s7.so.cell (j := 2) rfl
      have h5 : W7.cell? ⟨B, 5, none⟩ = some (.int .i64 ({ d.1 with p := pp } : SS).p) := s7.so.cell (j := 5) rfl
      have h6 : W7.cell? ⟨B, 6, none⟩ = some (.int .i64 ({ d.1 with p := pp } : SS).i) := s7.so.cell (j := 6) rfl
      have h7 : W7.cell? ⟨B, 7, none⟩ = some (.int .i64 ({ d.1 with p := pp } : SS).j) := s7.so.cell (j := 7) rfl
      have C1 := s7.rdw (bdrew1 W7) (by omega) (pp) (by omega) (by omega)
      obtain ⟨v1, hv1⟩ : ∃ v, rdV (({ d.1 with p := pp }, P2)) (pp) = v := ⟨_, rfl⟩
      obtain ⟨v2, hv2⟩ : ∃ v, rdV (rdD (({ d.1 with p := pp }, P2)) (pp)) (d.1.lo) = v := ⟨_, rfl⟩
      rw [hv1] at C1
      have HV : Hid (rdV (({ d.1 with p := pp }, P2)) (pp) = v1 ∧ rdV (rdD (({ d.1 with p := pp }, P2)) (pp)) (d.1.lo) = v2) := ⟨hv1, hv2⟩
      have HC2 : Hid (∀ w2, Sk N2 W0 w2 B wv T A5 B5 D5 S hb ((c + 14) + 1) (rdD (({ d.1 with p := pp }, P2)) (pp)) → Calls Tryz.prog 70 #[.pointer (some ⟨B, 0, none⟩), .int .i64 (d.1.lo)] w2 fun e w' => e = .returned (.agg #[.int .i64 v2.1, .int .i64 v2.2.1, .string v2.2.2]) ∧ Sk N2 W0 w' B wv T A5 B5 D5 S hb ((c + 14) + 1 + 1) (rdD (rdD (({ d.1 with p := pp }, P2)) (pp)) (d.1.lo))) := fun w2 k2 => (by
        have := k2.rd0 (by omega) (d.1.lo) (by omega) (by omega)
        rw [hv2] at this
        exact this)
      clear hv1 hv2 
      go_cut [] (fun wx => Sk N2 W0 wx B wv T A5 B5 D5 S hb ((c + 14) + 2) ({ (({ d.1 with p := pp }, P2)).1 with x := v1, y := v2 }, (rdD (rdD (({ d.1 with p := pp }, P2)) (pp)) (d.1.lo)).2))
      case first =>
        go_region_with (first
          | (go_at_call 70; (fail_if_success (have kz := k2)); refine (C1).mono ?_; rintro e w2 ⟨rfl, k2⟩; have d1 : w2.cell? ⟨B, 1, none⟩ = some (.int .i64 (({ d.1 with p := pp }, P2)).1.lo) := k2.so.cell (j := 1) rfl; have d2 : w2.cell? ⟨B, 2, none⟩ = some (.int .i64 (({ d.1 with p := pp }, P2)).1.up) := k2.so.cell (j := 2) rfl; have d5 : w2.cell? ⟨B, 5, none⟩ = some (.int .i64 (({ d.1 with p := pp }, P2)).1.p) := k2.so.cell (j := 5) rfl; have d6 : w2.cell? ⟨B, 6, none⟩ = some (.int .i64 (({ d.1 with p := pp }, P2)).1.i) := k2.so.cell (j := 6) rfl; have d7 : w2.cell? ⟨B, 7, none⟩ = some (.int .i64 (({ d.1 with p := pp }, P2)).1.j) := k2.so.cell (j := 7) rfl)
          | (go_at_call 70; refine (HC2.out w2 k2).mono ?_; rintro e w3 ⟨rfl, k3⟩; have d8 : w3.cell? ⟨B, 8, none⟩ = some (.int .i64 (({ d.1 with p := pp }, P2)).1.x.1) := k3.so.cell (j := 8) rfl; have d9 : w3.cell? ⟨B, 9, none⟩ = some (.int .i64 (({ d.1 with p := pp }, P2)).1.x.2.1) := k3.so.cell (j := 9) rfl; have d10 : w3.cell? ⟨B, 10, none⟩ = some (.string (({ d.1 with p := pp }, P2)).1.x.2.2) := k3.so.cell (j := 10) rfl; have d11 : w3.cell? ⟨B, 11, none⟩ = some (.int .i64 (({ d.1 with p := pp }, P2)).1.y.1) := k3.so.cell (j := 11) rfl; have d12 : w3.cell? ⟨B, 12, none⟩ = some (.int .i64 (({ d.1 with p := pp }, P2)).1.y.2.1) := k3.so.cell (j := 12) rfl; have d13 : w3.cell? ⟨B, 13, none⟩ = some (.string (({ d.1 with p := pp }, P2)).1.y.2.2) := k3.so.cell (j := 13) rfl; have dfz := k3.so.free))
        all_goals
          go_wp2_with fail
          go_meet
          exact ((k3.more (c' := (c + 14) + 2) (by omega)).st3 8 v1 { (({ d.1 with p := pp }, P2)).1 with x := v1 } rfl rfl).st3 11 v2 { (({ d.1 with p := pp }, P2)).1 with x := v1, y := v2 } rfl rfl
      case rest =>
        clear C1 HC2 
        have CA := hcut.askw (bdrew1 wc) 2 v1 v2
        have HR : Hid (_ = R) := HT.out
        simp only [HV.out.1, HV.out.2] at HR
        simp only at CA
        rw [HR.out] at CA
        have d8 : wc.cell? ⟨B, 8, none⟩ = some (.int .i64 v1.1) := hcut.so.cell (j := 8) rfl
        have d9 : wc.cell? ⟨B, 9, none⟩ = some (.int .i64 v1.2.1) := hcut.so.cell (j := 9) rfl
        have d10 : wc.cell? ⟨B, 10, none⟩ = some (.string v1.2.2) := hcut.so.cell (j := 10) rfl
        have d11 : wc.cell? ⟨B, 11, none⟩ = some (.int .i64 v2.1) := hcut.so.cell (j := 11) rfl
        have d12 : wc.cell? ⟨B, 12, none⟩ = some (.int .i64 v2.2.1) := hcut.so.cell (j := 12) rfl
        have d13 : wc.cell? ⟨B, 13, none⟩ = some (.string v2.2.2) := hcut.so.cell (j := 13) rfl
        clear HT HR HV hcut s7
        go_wp2_with fail
        refine wp_tail 9 (by kernel_rfl) (by kernel_rfl) ?_
        simp only [List.take_succ_cons, List.take_zero, List.drop_succ_cons, List.drop_zero]
        repeat still_step
        refine wpStill_nil ?_
        go_wp2_with fail
        refine (CA).mono ?_
        rintro e w4 ⟨rfl, wv4, A4, b4, a4, s4⟩
        obtain ⟨r4, r5, s5, k5⟩ := HF.out w4 wv4 A4 b4 a4 _ _ R.2 s4
        have HZ : Hid (_ ∧ _ ∧ _) := ⟨r5, s5, k5⟩
        obtain ⟨tl, htl⟩ : ∃ tl, R.2 = tl := ⟨_, rfl⟩
        rw [htl] at HZ ⊢
        obtain ⟨W5, hW5⟩ : ∃ W5, set8 w4 w.heap.size tl = W5 := ⟨_, rfl⟩
        rw [hW5] at HZ
        unfold set8 at hW5
        unfold tolV
        obtain ⟨n0, n1, n2, n3, n4, n5, n6, n7⟩ := r4.eight
        simp only [nil] at n0 n1 n2 n3 n4 n5 n6 n7
        have nf := fun j => r4.free j
        clear r4 r5 s5 k5 s4 HF CA
        go_wp2
        obtain ⟨q1, q2, q3⟩ := HZ.out
        obtain ⟨r0, r1, r2, r3, r4, r5, r6, r7⟩ := q1.eight
        exact bodyPost_ret (v := tolV tl) (by simp [results, Tryz.results43, go_sem, r0, r1, r2, r3, r4, r5, r6, r7, tolV]) rfl ⟨by first | rfl | rw [htl], ⟨_, _, _, _, q2.more (by omega)⟩, q3⟩
  · have hE' : (E != 0) = true := by simpa using hE0
    rw [if_pos hE0] at hR
    have HR : Hid (_ = R) := hR
    clear hR
    go_enter Tryz.func43, Tryz.ntmps43
    go_wp2_with fail
    refine wp_tail 19 (by kernel_rfl) (by kernel_rfl) ?_
    simp only [List.take_succ_cons, List.take_zero, List.drop_succ_cons, List.drop_zero]
    repeat still_step
    refine wpStill_nil ?_
    go_wp2_with fail
    refine C5.mono ?_
    rintro e w5 ⟨rfl, A5, B5, D5, k5⟩
    have C8 := k5.en0 (bself w5) E
    rw [HR.out] at C8
    clear HR k5 C5 hE0
    go_wp2_with fail
    refine (C8).mono ?_
    rintro e w4 ⟨rfl, wv4, A4, b4, a4, s4⟩
    obtain ⟨r4, r5, s5, k5⟩ := HF.out w4 wv4 A4 b4 a4 _ _ R.2 s4
    have HZ : Hid (_ ∧ _ ∧ _) := ⟨r5, s5, k5⟩
    obtain ⟨tl, htl⟩ : ∃ tl, R.2 = tl := ⟨_, rfl⟩
    rw [htl] at HZ ⊢
    obtain ⟨W5, hW5⟩ : ∃ W5, set8 w4 w.heap.size tl = W5 := ⟨_, rfl⟩
    rw [hW5] at HZ
    unfold set8 at hW5
    unfold tolV
    obtain ⟨n0, n1, n2, n3, n4, n5, n6, n7⟩ := r4.eight
    simp only [nil] at n0 n1 n2 n3 n4 n5 n6 n7
    have nf := fun j => r4.free j
    clear r4 r5 s5 k5 s4 HF C8
    go_wp2
    obtain ⟨q1, q2, q3⟩ := HZ.out
    obtain ⟨r0, r1, r2, r3, r4, r5, r6, r7⟩ := q1.eight
    exact bodyPost_ret (v := tolV tl) (by simp [results, Tryz.results43, go_sem, r0, r1, r2, r3, r4, r5, r6, r7, tolV]) rfl ⟨by first | rfl | rw [htl], ⟨_, _, _, _, q2.more (by omega)⟩, q3⟩
theorem ends_any {No : Nat → Prop} {w : World} {B : Nat} {wv : Value} {T A b a S hb c : Nat} {d : SD} (h : So No w B wv T A b a S hb c d) (hc : c ≤ 400000) (b1 : -2305843009213693952 ≤ d.1.lo) (b2 : d.1.lo ≤ 2305843009213693952) (b3 : -2305843009213693952 ≤ d.1.up) (b4 : d.1.up ≤ 2305843009213693952) (hlt : d.1.lo < d.1.up) (hr : ∀ r ∈ d.1.wt, r.1 < r.2 → -4611686018427387904 ≤ r.1 ∧ r.2 ≤ 4611686018427387904) (less : Bool) :
    Calls Tryz.prog 43 #[.pointer (some ⟨B, 0, none⟩), .bool less] w (GP No w B T S hb (c + 31) (endsR d less)) := by
  cases less with
  | true => exact ends_y h hc b1 b2 b3 b4 hlt hr
  | false => exact ends_n h hc b1 b2 b3 b4 hlt hr
end Go.Proofs.YtcaaaoehipcloaaGreat
