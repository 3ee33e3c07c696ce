/- The walk of BorderTwice. -/
import Derived.Test.YthlgeohncpmaaaaCg24
namespace Go.Proofs.Ythlgeohncpmaaaa
open Go.RowKit

set_option maxRecDepth 20000 in
set_option maxHeartbeats 4000000 in
theorem btwice_walk (x y : Int) (a : Option Addr) (L cap : Nat) (W : World) (Q : Nat → Int × V × V × Int) (hO : Ops W.heap.size W a L Q) :
    Calls Try.prog 5 #[cw x y (.slice a L cap)] W fun e w' => e = .returned (.bool true) ∧ Below W.heap.size W w' := by
  obtain ⟨B0, hl0, x0, x1, x2⟩ := start_case x y a L cap W
  obtain ⟨W0, hW0⟩ : ∃ W0, W.alloc (.cells #[.int .i64 x, .int .i64 y, .slice a L cap] 24) = W0 := ⟨_, rfl⟩
  rw [hW0] at B0 hl0 x0 x1 x2
  obtain ⟨X, hX⟩ : ∃ X, W.heap.size = X := ⟨_, rfl⟩
  rw [hX] at B0 hl0 x0 x1 x2 hO
  have HX : Hid (W.heap.size = X) := hX
  have C1 := fixed_any W0
  have HO : Hid (∀ w', Below X W w' → Ops X w' a L Q) := fun w' k => hO.below k
  have HB0 : Hid (Below X W W0) := B0
  have HF : Hid (∀ W1, Below W0.heap.size W0 W1 → X < W1.heap.size ∧ W1.cell? ⟨X, 0, none⟩ = some (.int .i64 x) ∧ W1.cell? ⟨X, 1, none⟩ = some (.int .i64 y) ∧ W1.cell? ⟨X, 2, none⟩ = some (.slice a L cap)) := fun W1 k => start_fixed hl0 x0 x1 x2 k
  have HN : Hid (X ≤ W0.heap.size) := Nat.le_of_lt hl0
  clear B0 hO
  unfold cw
  go_enter Try.func5, Try.ntmps5
  go_wp2_with fail
  refine C1.mono ?_; rintro e W1 ⟨rfl, k1⟩
  obtain ⟨hl1, y0, y1, y2⟩ := HF.out W1 k1
  have C2 := begin_any x y (.slice a L cap) W1
  have HB1 : Hid (Below X W W1) := bthen HB0.out HN.out k1
  unfold cw tp at C2
  have HL1 : Hid _ := And.intro hl1 y2
  clear C1 k1
  go_wp2_with fail
  refine C2.mono ?_; rintro e W2 ⟨T, A, b, a', S, hb, RT, t0, s0, rfl, tt, bw, st, _⟩
  have H0 : Hid (Bs (fun g => g ≤ X) W W2 X (.slice a L cap) T S hb 3 t0 s0) := st.bs tt bw HL1.out.1 HB1.out HL1.out.2
  clear C2 tt bw st y0 y1 y2 x0 x1 x2
  go_wp2_with fail
  go_loopw [6] (fun iw wr => ∃ k : Nat, iw = .int .i64 (k : Nat) ∧ k ≤ L ∧ k ≤ 300 ∧ Hid (∃ t s, Bs (fun g => g ≤ X) W wr X (.slice a L cap) T S hb (3 + 400 * k) t s)) (fun iw _ => 300 - (intOf iw).toNat)
  case atStart => exact ⟨0, rfl, by omega, by omega, t0, s0, H0.out⟩
  case round =>
    obtain ⟨k, rfl, hk, hk3, HR0⟩ := hrel
    obtain ⟨t, s, HR⟩ := HR0.out
    clear H0 HR0
    have xc := HR.xc
    by_cases hlt : k < L
    · by_cases hlt3 : k < 300
      · have hlt' : (k : Int) < (L : Int) := by omega
        have hlt3' : (k : Int) < 300 := by omega
        have hk0 : ¬ ((k : Int) < 0) := by omega
        obtain ⟨lb, off, rfl, hlb, i0, i1, i2, i3, i4, i5, i6, i7⟩ := (HO.out wr HR.bel).at hlt
        have hr := ((HO.out wr HR.bel).1 k hlt).1
        have hrN := ((HO.out wr HR.bel).1 k hlt).2
        have hwi : IntKind.i64.wrap ((k : Int) + 1) = (k : Int) + 1 := by rw [IntKind.wrap_i64]; omega
        have HC : Hid (∀ w1 t s c, Bs (fun g => g ≤ X) W w1 X (.slice (some ⟨lb, off, none⟩) L cap) T S hb c t s → w1.cell? ⟨X, 2, none⟩ = some (.slice (some ⟨lb, off, none⟩) L cap) ∧ w1.cell? ⟨lb, off + k * 8 + 1, none⟩ = some (.int .i64 (Q k).2.1.1) ∧ w1.cell? ⟨lb, off + k * 8 + 2, none⟩ = some (.int .i64 (Q k).2.1.2.1) ∧ w1.cell? ⟨lb, off + k * 8 + 3, none⟩ = some (.string (Q k).2.1.2.2) ∧ w1.cell? ⟨lb, off + k * 8 + 7, none⟩ = some (.int .i64 (Q k).2.2.2)) := fun w1 t s c h => by
          have hl : lb < X := hlb
          obtain ⟨lb', off', e, _, j0, j1, j2, j3, j4, j5, j6, j7⟩ := (HO.out w1 h.bel).at hlt
          simp only [Option.some.injEq, Addr.mk.injEq, and_true] at e
          obtain ⟨rfl, rfl⟩ := e
          exact ⟨h.xc, j1, j2, j3, j7⟩
        have CS := (HR.below (bdrew1 wr)).set (by omega) (Q k).2.1 (Q k).2.2.1 hr
        have HL : Hid (∀ w1 t s c, c ≤ 700000 → Bs (fun g => g ≤ X) W w1 X (.slice (some ⟨lb, off, none⟩) L cap) T S hb c t s → Calls Try.prog 12 #[.pointer (some ⟨T, 0, none⟩)] w1 fun e w' => e = .returned (.int .i64 (blen t).1) ∧ Bs (fun g => g ≤ X) W w' X (.slice (some ⟨lb, off, none⟩) L cap) T S hb (c + 130) (blen t).2 s ∧ ∀ u : TS, u.p = t.p → u.hint = (blen t).2.hint → (blen u).1 = (blen t).1) := fun w1 t s c hc h => (h.len hc).mono fun e w' hh => ⟨hh.1, hh.2.1, fun u q1 q2 => blen_two h.ti.1 h.hh q1 q2⟩
        have HG : Hid (∀ w1 t s c, c ≤ 700000 → Bs (fun g => g ≤ X) W w1 X (.slice (some ⟨lb, off, none⟩) L cap) T S hb c t s → Calls Try.prog 13 #[.pointer (some ⟨T, 0, none⟩), .agg #[.int .i64 (Q k).2.1.1, .int .i64 (Q k).2.1.2.1, .string (Q k).2.1.2.2]] w1 fun e w' => (∃ v, e = .returned v) ∧ ∃ t', t'.p = t.p ∧ t'.hint = t.hint ∧ Bs (fun g => g ≤ X) W w' X (.slice (some ⟨lb, off, none⟩) L cap) T S hb (c + 1) t' s) := fun w1 t s c hc h => (h.get hc (Q k).2.1 hr).mono fun e w' hh => ⟨⟨_, hh.1⟩, { t with pr := t.pr + (prd t.p (Q k).2.1 : Nat) }, rfl, rfl, hh.2.1⟩
        have HI : Hid (∀ w1 t s c, c ≤ 700000 → Bs (fun g => g ≤ X) W w1 X (.slice (some ⟨lb, off, none⟩) L cap) T S hb c t s → Calls Try.prog 15 #[.pointer (some ⟨T, 0, none⟩), .int .i64 (Q k).2.2.2] w1 fun e w' => (∃ v, e = .returned v) ∧ ∃ t', t'.p = t.p ∧ t'.hint = t.hint ∧ Bs (fun g => g ≤ X) W w' X (.slice (some ⟨lb, off, none⟩) L cap) T S hb (c + 2) t' s) := fun w1 t s c hc h => (h.is hc (Q k).2.2.2 hrN.1 hrN.2).mono fun e w' hh => ⟨⟨_, hh.1⟩, (bis t (Q k).2.2.2).2, (bis_st t _).1, (bis_st t _).2.1, hh.2.1⟩
        have HP : Hid (∀ w1 t s c, Bs (fun g => g ≤ X) W w1 X (.slice (some ⟨lb, off, none⟩) L cap) T S hb c t s → (blen t).2.p = t.p) := fun w1 t s c h => (blen_st h.ti.1 h.hh).1
        unfold vv vl tp at CS
        generalize Q k = q at *
        clear HR
        go_wp2_with fail
        refine wp_tail 13 (by kernel_rfl) (by kernel_rfl) ?_
        simp only [List.take_succ_cons, List.take_zero, List.drop_succ_cons, List.drop_zero]
        repeat still_step
        refine wpStill_nil ?_
        go_wp2_with fail
        refine CS.mono ?_; rintro e W4 ⟨rfl, b4, _⟩
        generalize (tset t s q.2.1 q.2.2.1).1 = t1 at b4
        generalize (tset t s q.2.1 q.2.2.1).2.1 = s1 at b4
        clear CS xc i0 i1 i2 i3 i4 i5 i6 i7
        have hmd : (k : Int) % 5 = ((k % 5 : Nat) : Int) := by omega
        by_cases h5 : k % 5 = 0
        · have hm5 : ((k : Int) % 5 != 0) = false := by rw [hmd, h5]; rfl
          clear hmd h5
          have C5 := HL.out W4 t1 s1 _ (by omega) b4
          have HP1 : Hid ((blen t1).2.p = t1.p) := HP.out _ _ _ _ b4
          clear b4
          go_wp2_with fail
          refine C5.mono ?_; rintro e W5 ⟨rfl, b5, hsame⟩
          have HSm : Hid _ := hsame
          obtain ⟨z0, z1, z2, z3, z4⟩ := HC.out _ _ _ _ b5
          have C6 := HG.out W5 _ _ _ (by omega) b5
          clear C5 b5 hsame
          go_wp2_with fail
          refine C6.mono ?_; rintro e W6 ⟨⟨v6, rfl⟩, t6, p6, n6, b6⟩
          obtain ⟨z0, z1, z2, z3, z4⟩ := HC.out _ _ _ _ b6
          have C7 := HI.out W6 _ _ _ (by omega) b6
          clear C6 b6
          go_wp2_with fail
          refine C7.mono ?_; rintro e W7 ⟨⟨v7, rfl⟩, t7, p7, n7, b7⟩
          have C8 := HL.out W7 _ _ _ (by omega) b7
          have e8 : (blen t7).1 = (blen t1).1 := HSm.out t7 (by rw [p7, p6]; exact HP1.out) (by rw [n7, n6])
          have HP2 : Hid ((blen t7).2.p = t7.p) := HP.out _ _ _ _ b7
          rw [e8] at C8
          have hne : ((blen t1).1 != (blen t1).1) = false := by simp
          clear C7 b7
          go_wp2_with fail
          refine C8.mono ?_; rintro e W8 ⟨rfl, b8, hs8⟩
          have C9 := HL.out W8 _ _ _ (by omega) b8
          have e9 : (blen (blen t7).2).1 = (blen t1).1 := hs8 (blen t7).2 HP2.out rfl
          rw [e9] at C9
          clear C8 b8 hs8
          go_wp2_with fail
          refine C9.mono ?_; rintro e W9 ⟨rfl, b9, _⟩
          have H9 : Hid _ := b9
          clear C9 b9
          go_wp2_with fail
          go_round
          case rel => exact ⟨k + 1, by go_num, by omega, by omega, _, _, H9.out.more (by omega)⟩
          case measure => simp [intOf]; omega
        · have hm5 : ((k : Int) % 5 != 0) = true := by rw [hmd]; simp; omega
          clear hmd
          have H4 : Hid _ := b4
          clear b4
          go_wp2_with fail
          go_round
          case rel => exact ⟨k + 1, by go_num, by omega, by omega, _, _, H4.out.more (by omega)⟩
          case measure => simp [intOf]; omega
      · obtain rfl : k = 300 := by omega
        have hlt' : ((300 : Nat) : Int) < (L : Int) := by omega
        go_wp2_with fail
        go_ret
        first | exact ⟨rfl, HR.bel⟩ | exact ⟨rfl, by rw [HX.out]; exact HR.bel⟩
    · obtain rfl : k = L := by omega
      have hlt' : ¬ ((k : Int) < (k : Int)) := by omega
      go_wp2_with fail
      go_ret
      first | exact ⟨rfl, HR.bel⟩ | exact ⟨rfl, by rw [HX.out]; exact HR.bel⟩
end Go.Proofs.Ythlgeohncpmaaaa
