/- The walk of BorderRow: true. -/
import Derived.Test.YthlgeohncpmaaaaCg28
namespace Go.Proofs.Ythlgeohncpmaaaa
open Go.RowKit

set_option maxRecDepth 20000 in
set_option maxHeartbeats 4000000 in
theorem brow_true (x y : Int) (a : Option Addr) (L cap : Nat) (W : World) (Q : Nat → Int × V × V × Int) (hO : Ops W.heap.size W a L Q) (m : Int) :
    Calls Try.prog 4 #[cw x y (.slice a L cap), .int .i64 m, .bool true] W fun e w' => e = .returned (.bool true) ∧ Below W.heap.size W w' := by
  obtain ⟨B0, hl0, x0, x1, x2⟩ := start_case x y a L cap W
  obtain ⟨W0, hW0⟩ : ∃ W0, W.alloc (.cells #[.int .i64 x, .int .i64 y, .slice a L cap] 24) = W0 := ⟨_, rfl⟩
  rw [hW0] at B0 hl0 x0 x1 x2
  obtain ⟨X, hX⟩ : ∃ X, W.heap.size = X := ⟨_, rfl⟩
  rw [hX] at B0 hl0 x0 x1 x2 hO
  have HX : Hid (W.heap.size = X) := hX
  have C1 := fixed_any W0
  have HO : Hid (∀ w', Below X W w' → Ops X w' a L Q) := fun w' k => hO.below k
  have HB0 : Hid (Below X W W0) := B0
  have HF : Hid (∀ W1, Below W0.heap.size W0 W1 → X < W1.heap.size ∧ W1.cell? ⟨X, 0, none⟩ = some (.int .i64 x) ∧ W1.cell? ⟨X, 1, none⟩ = some (.int .i64 y) ∧ W1.cell? ⟨X, 2, none⟩ = some (.slice a L cap)) := fun W1 k => start_fixed hl0 x0 x1 x2 k
  have HN : Hid (X ≤ W0.heap.size) := Nat.le_of_lt hl0
  clear B0 hO
  unfold cw
  obtain ⟨M, hM⟩ : ∃ M : Nat, sz m = M := ⟨(sz m).toNat, by have := sz_ok m; omega⟩
  have hM2 : M < 200 := by have := sz_ok m; omega
  have hu : 0 ≤ IntKind.u64.wrap m := by rw [IntKind.wrap_u64]; omega
  have hwA : wrap64 ((IntKind.u64.wrap m).tmod 200) = (M : Int) := by
    rw [← hM]; have := sz_ok m; unfold sz at *; rw [Int.tmod_eq_emod_of_nonneg hu]; unfold wrap64; omega
  have hwB : wrap64 ((IntKind.u64.wrap m) % 200) = (M : Int) := by
    rw [← hM]; have := sz_ok m; unfold sz at *; unfold wrap64; omega
  clear hM hu
  go_enter Try.func4, Try.ntmps4
  go_wp2_with fail
  refine C1.mono ?_; rintro e W1 ⟨rfl, k1⟩
  obtain ⟨hl1, y0, y1, y2⟩ := HF.out W1 k1
  have C2 := begin_any x y (.slice a L cap) W1
  have HB1 : Hid (Below X W W1) := bthen HB0.out HN.out k1
  unfold cw tp at C2
  have HL1 : Hid _ := And.intro hl1 y2
  clear C1 k1
  go_wp2_with fail
  refine C2.mono ?_; rintro e W2 ⟨T, A, b, a', S, hb, RT, t0, s0, rfl, tt, bw, st, _⟩
  have H0 : Hid (Bs (fun g => g ≤ X) W W2 X (.slice a L cap) T S hb 3 t0 s0) := st.bs tt bw HL1.out.1 HB1.out HL1.out.2
  have HP0 : Hid (Sm t0 0 ∧ Pos t0.p (fun _ => False)) := ⟨st.sm, st.pos H0.out.ti.1⟩
  clear C2 tt bw st y0 y1 y2 x0 x1 x2
  go_wp2_with fail
  have HI : Hid (∀ (n : Int) w1 t s c, Bs (fun g => g ≤ X) W w1 X (.slice a L cap) T S hb c t s → Calls Try.prog 14 #[.int .i64 n] w1 fun e w' => e = .returned (.agg #[.int .i64 2, .int .i64 n, .string ⟨#[]⟩]) ∧ Bs (fun g => g ≤ X) W w' X (.slice a L cap) T S hb c t s) := fun n w1 t s c h => (mkI n w1).mono fun e w' hh => ⟨hh.1, h.below hh.2⟩
  have HL : Hid (∀ w1 t s c, c ≤ 700000 → Bs (fun g => g ≤ X) W w1 X (.slice a L cap) T S hb c t s → Calls Try.prog 12 #[.pointer (some ⟨T, 0, none⟩)] w1 fun e w' => e = .returned (.int .i64 (blen t).1) ∧ Bs (fun g => g ≤ X) W w' X (.slice a L cap) T S hb (c + 130) (blen t).2 s ∧ (blen t).2.p = t.p ∧ Bd t.p (blen t).1) := fun w1 t s c hc h => (h.len hc).mono fun e w' hh => ⟨hh.1, hh.2.1, (blen_st h.ti.1 h.hh).1, blen_bd h.ti.1 h.hh⟩
  rw [hwA]
  clear hwA hwB
  go_loopw [10] (fun iw wr => ∃ q : Nat, iw = .int .i64 ((q : Int) + 1) ∧ q ≤ M ∧ Hid (∃ t s, Bs (fun g => g ≤ X) W wr X (.slice a L cap) T S hb (3 + 150 * q) t s ∧ Sm t q ∧ Pos t.p (Dd true M q))) (fun iw _ => (M + 1 - (intOf iw).toNat))
  case atStart => exact ⟨0, rfl, by omega, t0, s0, H0.out, HP0.out.1, HP0.out.2.iff (fun i g _ => Dd_0 true M i g)⟩
  case round =>
    obtain ⟨q, rfl, hq, HR0⟩ := hrel
    obtain ⟨t, s, HR, sm, ps⟩ := HR0.out
    clear H0 HR0 HP0
    by_cases hlt : q < M
    · have hle : (q : Int) + 1 ≤ (M : Int) := by omega
      have hwi : IntKind.i64.wrap ((q : Int) + 1 + 1) = (q : Int) + 1 + 1 := by rw [IntKind.wrap_i64]; omega
      have hw1 : IntKind.i64.wrap ((M : Int) + 1) = (M : Int) + 1 := by rw [IntKind.wrap_i64]; omega
      have hw2 : IntKind.i64.wrap ((M : Int) + 1 - ((q : Int) + 1)) = (M : Int) - q := by rw [IntKind.wrap_i64]; omega
      have HS : Hid (∀ w1, Bs (fun g => g ≤ X) W w1 X (.slice a L cap) T S hb (3 + 150 * q) t s → Calls Try.prog 11 #[.pointer (some ⟨T, 0, none⟩), .agg #[.int .i64 2, .int .i64 (Dj true M q), .string ⟨#[]⟩], .agg #[.int .i64 2, .int .i64 ((q : Int) + 1), .string ⟨#[]⟩]] w1 fun e w' => e = .returned (.int .i64 0) ∧ ∃ t' s', Bs (fun g => g ≤ X) W w' X (.slice a L cap) T S hb (3 + 150 * q + 7) t' s' ∧ Sm t' (q + 1) ∧ Pos t'.p (Dd true M (q + 1))) := fun w1 h => h.row hM2 hlt sm ps (by omega)
      have C5 := HI.out (Dj true M q) wr _ _ _ HR
      clear sm ps HR
      have ed : Dj true M q = (M : Int) - q := by unfold Dj; simp
      rw [ed] at C5 HS
      clear ed
      go_wp2_with fail
      refine C5.mono ?_; rintro e W5 ⟨rfl, b5⟩
      have C6 := HI.out ((q : Int) + 1) W5 _ _ _ b5
      clear C5 b5
      go_wp2_with fail
      refine C6.mono ?_; rintro e W6 ⟨rfl, b6⟩
      have C7 := HS.out W6 b6
      clear C6 b6
      go_wp2_with fail
      refine C7.mono ?_; rintro e W7 ⟨rfl, t7, s7, b7, sm7, ps7⟩
      have H7 : Hid _ := And.intro b7 (And.intro sm7 ps7)
      have CL := HL.out W7 _ _ _ (by omega) b7
      clear C7 b7 sm7 ps7
      by_cases h3 : (q + 1) % 3 = 0
      · have hm3 : (((q : Int) + 1) % 3 == 0) = true := by simp; omega
        clear h3
        go_wp2_with fail
        refine CL.mono ?_; rintro e W8 ⟨rfl, b8, ep8, _⟩
        have H8 : Hid _ := And.intro b8 ep8
        clear CL b8 ep8
        go_wp2_with fail
        go_round
        case rel => exact ⟨q + 1, by go_num, by omega, _, _, H8.out.1.more (by omega), H7.out.2.1.like H8.out.2, by rw [H8.out.2]; exact H7.out.2.2⟩
        case measure => simp [intOf]; omega
      · have hm3 : (((q : Int) + 1) % 3 == 0) = false := by simp; omega
        clear h3 CL
        go_wp2_with fail
        go_round
        case rel => exact ⟨q + 1, by go_num, by omega, _, _, H7.out.1.more (by omega), H7.out.2.1, H7.out.2.2⟩
        case measure => simp [intOf]; omega
    · obtain rfl : q = M := by omega
      have hle : ¬ ((q : Int) + 1 ≤ (q : Int)) := by omega
      have HR1 : Hid (∃ t s, Bs (fun g => g ≤ X) W wr X (.slice a L cap) T S hb (3 + 150 * 200 + 7 * 0) t s ∧ Pos t.p (fun i => i ≤ (q : Int))) := ⟨t, s, HR.more (by omega), ps.iff (fun i g _ => Dd_M true q i g)⟩
      clear HR sm ps
      go_wp2_with fail
      go_loopw [12] (fun iw wr => ∃ k : Nat, iw = .int .i64 (k : Nat) ∧ k ≤ L ∧ k ≤ 300 ∧ Hid (∃ t s, Bs (fun g => g ≤ X) W wr X (.slice a L cap) T S hb (3 + 150 * 200 + 7 * k) t s ∧ Pos t.p (fun i => i ≤ (q : Int)))) (fun iw _ => 300 - (intOf iw).toNat)
      case atStart => exact ⟨0, rfl, by omega, by omega, HR1⟩
      case round =>
        obtain ⟨k, rfl, hk, hk3, HR0⟩ := hrel
        obtain ⟨t, s, HR, ps⟩ := HR0.out
        clear HR0 HR1
        have xc := HR.xc
        by_cases hlt : k < L
        · by_cases hlt3 : k < 300
          · have hlt' : (k : Int) < (L : Int) := by omega
            have hlt3' : (k : Int) < 300 := by omega
            have hk0 : ¬ ((k : Int) < 0) := by omega
            obtain ⟨lb, off, rfl, hlb, i0, i1, i2, i3, i4, i5, i6, i7⟩ := (HO.out wr HR.bel).at hlt
            have hr := ((HO.out wr HR.bel).1 k hlt).1
            have hwi : IntKind.i64.wrap ((k : Int) + 1) = (k : Int) + 1 := by rw [IntKind.wrap_i64]; omega
            have kb := b1 wr (vb (Q k).2.1.1 (Q k).2.1.2.1 (Q k).2.1.2.2)
            have kx := Bx.made wr (Q k).2.1
            have BR := HR.below kb
            have j4 := i4
            have j5 := i5
            have j6 := i6
            have hlbr : lb < wr.heap.size := Nat.lt_trans hlb HR.sz
            rw [← kb.cell (p := ⟨lb, off + k * 8 + 4, none⟩) (by exact hlbr)] at i4
            rw [← kb.cell (p := ⟨lb, off + k * 8 + 5, none⟩) (by exact hlbr)] at i5
            rw [← kb.cell (p := ⟨lb, off + k * 8 + 6, none⟩) (by exact hlbr)] at i6
            have xc2 := BR.xc
            have CS := (BR.below (bdrew1 _)).set (by omega) (Q k).2.1 (Q k).2.2.1 hr
            have HPs : Hid ((Q k).2.1.1 ≠ 2 ∨ (Q k).2.1.2.1 ≤ 0 → Pos (tset t s (Q k).2.1 (Q k).2.2.1).1.p (fun i => i ≤ (q : Int))) := fun h => ps.other HR.ti.1 hr h _
            have HPn : Hid (Pos t.p (fun i => i ≤ (q : Int))) := ps
            unfold vv vl tp at CS
            obtain ⟨W3, hW3⟩ : ∃ W3, wr.alloc (vb (Q k).2.1.1 (Q k).2.1.2.1 (Q k).2.1.2.2) = W3 := ⟨_, rfl⟩
            have HBR : Hid _ := BR
            rw [hW3] at i4 i5 i6 xc2 CS kx HBR
            unfold vb at hW3
            have n0 := kx.c0
            have n1 := kx.c1
            have n2 := kx.c2
            generalize Q k = qq at *
            clear kb BR HR ps kx j4 j5 j6
            by_cases h2 : qq.2.1.1 = 2
            · have h2b : (qq.2.1.1 != 2) = false := by simp [h2]
              by_cases h0 : qq.2.1.2.1 ≤ 0
              · have HP2 : Hid _ := HPs.out (.inr h0)
                clear h2 HPs
                go_wp2_with fail
                refine wp_tail 8 (by kernel_rfl) (by kernel_rfl) ?_
                simp only [List.take_succ_cons, List.take_zero, List.drop_succ_cons, List.drop_zero]
                repeat still_step
                refine wpStill_nil ?_
                go_wp2_with fail
                refine CS.mono ?_; rintro e W4 ⟨rfl, b4, _⟩
                have H4 : Hid _ := b4
                clear CS b4
                go_wp2_with fail
                go_round
                case rel => exact ⟨k + 1, by go_num, by omega, by omega, _, _, H4.out.more (by omega), HP2.out⟩
                case measure => simp [intOf]; omega
              · clear h2 HPs CS
                go_wp2_with fail
                go_round
                case rel => exact ⟨k + 1, by go_num, by omega, by omega, _, _, HBR.out.more (by omega), HPn.out⟩
                case measure => simp [intOf]; omega
            · have h2b : (qq.2.1.1 != 2) = true := by simp [h2]
              have HP2 : Hid _ := HPs.out (.inl h2)
              clear HPs h2
              go_wp2_with fail
              refine wp_tail 8 (by kernel_rfl) (by kernel_rfl) ?_
              simp only [List.take_succ_cons, List.take_zero, List.drop_succ_cons, List.drop_zero]
              repeat still_step
              refine wpStill_nil ?_
              go_wp2_with fail
              refine CS.mono ?_; rintro e W4 ⟨rfl, b4, _⟩
              have H4 : Hid _ := b4
              clear CS b4
              go_wp2_with fail
              go_round
              case rel => exact ⟨k + 1, by go_num, by omega, by omega, _, _, H4.out.more (by omega), HP2.out⟩
              case measure => simp [intOf]; omega
          · obtain rfl : k = 300 := by omega
            have hlt' : ((300 : Nat) : Int) < (L : Int) := by omega
            have CL := HL.out wr _ _ _ (by omega) HR
            have HPn : Hid (Pos t.p (fun i => i ≤ (q : Int))) := ps
            clear ps HR
            go_wp2_with fail
            refine CL.mono ?_; rintro e W4 ⟨rfl, b4, ep, bd⟩
            have em : (blen t).1 = (q : Int) := bd.row (by omega) HPn.out
            have bd' : Bd (blen t).2.p (q : Int) := by rw [ep, ← em]; exact bd
            have CI := b4.is (by omega) (q : Int) (by omega) (by omega)
            rw [(bis_ok _ _ (by omega)).2 bd'] at CI
            have hqq : ((q : Int) == (q : Int)) = true := by simp
            rw [em]
            have HPm : Hid (Pos (blen t).2.p (fun i => i ≤ (q : Int))) := by rw [ep]; exact HPn.out
            unfold tp at CI
            clear CL b4 em bd bd' HPn ep
            generalize (blen t).2 = t2 at *
            go_wp2_with fail
            refine CI.mono ?_; rintro e W5 ⟨rfl, b5, _⟩
            by_cases hq0 : q = 0
            · have hb0 : ((q : Int) == 0) = true := by simp [hq0]
              have HB5 : Hid _ := b5.bel
              clear CI b5 hq0
              go_wp2_with fail
              go_ret
              first | exact ⟨rfl, HB5.out⟩ | exact ⟨rfl, by rw [HX.out]; exact HB5.out⟩
            · have hb0 : ((q : Int) == 0) = false := by simp [hq0]
              have hw3 : IntKind.i64.wrap ((q : Int) - 1) = (q : Int) - 1 := by rw [IntKind.wrap_i64]; omega
              have CJ := b5.is (by omega) ((q : Int) - 1) (by omega) (by omega)
              have hnb : (bis (bis t2 (q : Int)).2 ((q : Int) - 1)).1 = false := by
                cases hc : (bis (bis t2 (q : Int)).2 ((q : Int) - 1)).1 with
                | false => rfl
                | true =>
                  obtain ⟨_, _, _, h4⟩ := (bis_ok _ _ (by omega)).1 hc
                  rcases h4 with h4 | h4
                  · omega
                  · rw [(bis_st t2 (q : Int)).1, show (q : Int) - 1 + 1 = (q : Int) by omega] at h4
                    have := (HPm.out (q : Int) (by omega) (by omega)).2 (Int.le_refl _)
                    rw [h4] at this; cases this
              rw [hnb] at CJ
              unfold tp at CJ
              clear CI b5 hq0
              go_wp2_with fail
              refine CJ.mono ?_; rintro e W6 ⟨rfl, b6, _⟩
              have HB6 : Hid _ := b6.bel
              clear CJ b6
              go_wp2_with fail
              go_ret
              first | exact ⟨rfl, HB6.out⟩ | exact ⟨rfl, by rw [HX.out]; exact HB6.out⟩
        · obtain rfl : k = L := by omega
          have hlt' : ¬ ((k : Int) < (k : Int)) := by omega
          have CL := HL.out wr _ _ _ (by omega) HR
          have HPn : Hid (Pos t.p (fun i => i ≤ (q : Int))) := ps
          clear ps HR
          go_wp2_with fail
          refine CL.mono ?_; rintro e W4 ⟨rfl, b4, ep, bd⟩
          have em : (blen t).1 = (q : Int) := bd.row (by omega) HPn.out
          have bd' : Bd (blen t).2.p (q : Int) := by rw [ep, ← em]; exact bd
          have CI := b4.is (by omega) (q : Int) (by omega) (by omega)
          rw [(bis_ok _ _ (by omega)).2 bd'] at CI
          have hqq : ((q : Int) == (q : Int)) = true := by simp
          rw [em]
          have HPm : Hid (Pos (blen t).2.p (fun i => i ≤ (q : Int))) := by rw [ep]; exact HPn.out
          unfold tp at CI
          clear CL b4 em bd bd' HPn ep
          generalize (blen t).2 = t2 at *
          go_wp2_with fail
          refine CI.mono ?_; rintro e W5 ⟨rfl, b5, _⟩
          by_cases hq0 : q = 0
          · have hb0 : ((q : Int) == 0) = true := by simp [hq0]
            have HB5 : Hid _ := b5.bel
            clear CI b5 hq0
            go_wp2_with fail
            go_ret
            first | exact ⟨rfl, HB5.out⟩ | exact ⟨rfl, by rw [HX.out]; exact HB5.out⟩
          · have hb0 : ((q : Int) == 0) = false := by simp [hq0]
            have hw3 : IntKind.i64.wrap ((q : Int) - 1) = (q : Int) - 1 := by rw [IntKind.wrap_i64]; omega
            have CJ := b5.is (by omega) ((q : Int) - 1) (by omega) (by omega)
            have hnb : (bis (bis t2 (q : Int)).2 ((q : Int) - 1)).1 = false := by
              cases hc : (bis (bis t2 (q : Int)).2 ((q : Int) - 1)).1 with
              | false => rfl
              | true =>
                obtain ⟨_, _, _, h4⟩ := (bis_ok _ _ (by omega)).1 hc
                rcases h4 with h4 | h4
                · omega
                · rw [(bis_st t2 (q : Int)).1, show (q : Int) - 1 + 1 = (q : Int) by omega] at h4
                  have := (HPm.out (q : Int) (by omega) (by omega)).2 (Int.le_refl _)
                  rw [h4] at this; cases this
            rw [hnb] at CJ
            unfold tp at CJ
            clear CI b5 hq0
            go_wp2_with fail
            refine CJ.mono ?_; rintro e W6 ⟨rfl, b6, _⟩
            have HB6 : Hid _ := b6.bel
            clear CJ b6
            go_wp2_with fail
            go_ret
            first | exact ⟨rfl, HB6.out⟩ | exact ⟨rfl, by rw [HX.out]; exact HB6.out⟩
end Go.Proofs.Ythlgeohncpmaaaa
