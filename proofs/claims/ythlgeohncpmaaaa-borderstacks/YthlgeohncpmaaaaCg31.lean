/- What BorderStacks wants besides: values held against one another, a push, a pop. -/
import Derived.Test.YthlgeohncpmaaaaCg28
namespace Go.Proofs.Ythlgeohncpmaaaa
open Go.RowKit

set_option maxRecDepth 20000 in
theorem ref0_any (w : World) : Calls Try.prog 19 #[] w fun e w' => e = .returned (vl 0 0 ⟨#[]⟩) ∧ Below w.heap.size w w' := by
  have HB : Hid _ := b1 w (.cells #[.int .i64 0, .int .i64 0, .string ⟨#[]⟩] 31)
  unfold vl
  go_enter Try.func19, Try.ntmps19
  go_wp2
  refine bodyPost_ret (v := .agg #[.int .i64 0, .int .i64 0, .string ⟨#[]⟩]) (by simp [results, Try.results19, go_sem]) rfl ⟨rfl, ?_⟩
  first | exact HB.out | (simp; exact HB.out)
theorem Bs.push {P : Nat → Prop} {W w : World} {X : Nat} {xs : Value} {T S hb c : Nat} {t : TS} {s : H.St} (h : Bs P W w X xs T S hb c t s) {n k : Nat} (hc : c ≤ 700000) (hn : n < 1000) (hk : k ≤ 400) (ps : Pos t.p (fun i => i ≤ (n : Int))) (sm : Sm t k) (v : Int) :
    Calls Try.prog 11 #[tp T, vv (kn ((n : Int) + 1)), vv (kn v)] w fun e w' => e = .returned (.int .i64 0) ∧ ∃ t' s', Bs P W w' X xs T S hb (c + 7) t' s' ∧ Sm t' (k + 1) ∧ Pos t'.p (fun i => i ≤ ((n + 1 : Nat) : Int)) ∧ pget t'.p (kn ((n : Int) + 1)) = kn v := by
  have ti := h.ti
  have hr : Rng (kn ((n : Int) + 1)) := rng_kn (by omega) (by omega)
  have e0 : (tset t s (kn ((n : Int) + 1)) (kn v)).2.2 = 0 := set_zero ti.1 hr (fm_kn _) (fm_kn _) (by simp) h.tb ti.2 h.lim sm.n sm.z
  refine (h.set hc _ (kn v) hr).mono ?_
  rintro e w' ⟨rfl, b, _⟩
  exact ⟨by rw [e0], _, _, b, sm.set (by omega) ti.1 hr b.ti.1, (ps.set ti.1 (by omega) (by omega) (by simp) e0).iff (fun i _ _ => by omega), ((tset_map (s := s) (v := kn v) ti.1 hr).1 e0).2.2.1⟩
theorem Bs.pop {P : Nat → Prop} {W w : World} {X : Nat} {xs : Value} {T S hb c : Nat} {t : TS} {s : H.St} (h : Bs P W w X xs T S hb c t s) {n k : Nat} (hc : c ≤ 700000) (hn : n < 1000) (hk : k ≤ 400) (ps : Pos t.p (fun i => i ≤ ((n + 1 : Nat) : Int))) (sm : Sm t k) :
    Calls Try.prog 11 #[tp T, vv (kn ((n + 1 : Nat) : Int)), vv nil] w fun e w' => e = .returned (.int .i64 0) ∧ ∃ t' s', Bs P W w' X xs T S hb (c + 7) t' s' ∧ Sm t' (k + 1) ∧ Pos t'.p (fun i => i ≤ (n : Int)) := by
  have ti := h.ti
  have hr : Rng (kn ((n + 1 : Nat) : Int)) := rng_kn (by omega) (by omega)
  have e0 : (tset t s (kn ((n + 1 : Nat) : Int)) nil).2.2 = 0 := set_zero ti.1 hr (fm_kn _) fm_nil (by simp) h.tb ti.2 h.lim sm.n sm.z
  refine (h.set hc _ nil hr).mono ?_
  rintro e w' ⟨rfl, b, _⟩
  exact ⟨by rw [e0], _, _, b, sm.set (by omega) ti.1 hr b.ti.1, (ps.clr ti.1 (by omega) (by omega) e0).iff (fun i _ _ => by omega)⟩
end Go.Proofs.Ythlgeohncpmaaaa

/- The walk of BorderStacks. -/
namespace Go.Proofs.Ythlgeohncpmaaaa
open Go.RowKit

set_option maxRecDepth 20000 in
set_option maxHeartbeats 4000000 in
theorem bstacks_walk (x y : Int) (a : Option Addr) (L cap : Nat) (W : World) (Q : Nat → Int × V × V × Int) (hO : Ops W.heap.size W a L Q) (pa : Option Addr) (PL pcap : Nat) (B : Nat → Bool) (hP : 0 < PL → ∃ pb po, pa = some ⟨pb, po, none⟩ ∧ pb < W.heap.size ∧ ∀ i, i < PL → W.cell? ⟨pb, po + i, none⟩ = some (.bool (B i))) :
    Calls Try.prog 7 #[cw x y (.slice a L cap), .slice pa PL pcap] W fun e w' => e = .returned (.bool true) ∧ Below W.heap.size W w' := by
  obtain ⟨B0, hl0, x0, x1, x2⟩ := start_case x y a L cap W
  obtain ⟨W0, hW0⟩ : ∃ W0, W.alloc (.cells #[.int .i64 x, .int .i64 y, .slice a L cap] 24) = W0 := ⟨_, rfl⟩
  rw [hW0] at B0 hl0 x0 x1 x2
  obtain ⟨X, hX⟩ : ∃ X, W.heap.size = X := ⟨_, rfl⟩
  rw [hX] at B0 hl0 x0 x1 x2 hO
  have HX : Hid (W.heap.size = X) := hX
  have C1 := fixed_any W0
  have HO : Hid (∀ w', Below X W w' → Ops X w' a L Q) := fun w' k => hO.below k
  have HB0 : Hid (Below X W W0) := B0
  have HF : Hid (∀ W1, Below W0.heap.size W0 W1 → X < W1.heap.size ∧ W1.cell? ⟨X, 0, none⟩ = some (.int .i64 x) ∧ W1.cell? ⟨X, 1, none⟩ = some (.int .i64 y) ∧ W1.cell? ⟨X, 2, none⟩ = some (.slice a L cap)) := fun W1 k => start_fixed hl0 x0 x1 x2 k
  have HN : Hid (X ≤ W0.heap.size) := Nat.le_of_lt hl0
  clear B0 hO
  unfold cw
  have HPB : Hid (∀ w', Below X W w' → ∀ i, i < PL → ∃ pb po, pa = some ⟨pb, po, none⟩ ∧ w'.cell? ⟨pb, po + i, none⟩ = some (.bool (B i))) := fun w' k i hi => by
    obtain ⟨pb, po, e1, e2, e3⟩ := hP (by omega)
    exact ⟨pb, po, e1, by rw [k.cell (by show pb < X; rw [← hX]; exact e2)]; exact e3 i hi⟩
  clear hP
  go_enter Try.func7, Try.ntmps7
  go_wp2_with fail
  refine C1.mono ?_; rintro e W1 ⟨rfl, k1⟩
  obtain ⟨hl1, y0, y1, y2⟩ := HF.out W1 k1
  have C2 := begin_any x y (.slice none 0 0) W1
  have HB1 : Hid (Below X W W1) := bthen HB0.out HN.out k1
  unfold cw tp at C2
  have HL1 : Hid _ := And.intro hl1 y2
  clear C1 k1
  go_wp2_with fail
  refine C2.mono ?_; rintro e W2 ⟨T, A, b, a', S, hb, RT, t0, s0, rfl, tt, bw, st, _⟩
  have H0 : Hid (Bs (fun g => g ≤ X) W W2 X (.slice a L cap) T S hb 3 t0 s0) := st.bs tt bw HL1.out.1 HB1.out HL1.out.2
  have HP0 : Hid (Sm t0 0 ∧ Pos t0.p (fun _ => False)) := ⟨st.sm, st.pos H0.out.ti.1⟩
  clear C2 tt bw st y0 y1 y2 x0 x1 x2
  go_wp2_with fail
  have HI : Hid (∀ (n : Int) w1 t s c, Bs (fun g => g ≤ X) W w1 X (.slice a L cap) T S hb c t s → Calls Try.prog 14 #[.int .i64 n] w1 fun e w' => e = .returned (.agg #[.int .i64 2, .int .i64 n, .string ⟨#[]⟩]) ∧ Bs (fun g => g ≤ X) W w' X (.slice a L cap) T S hb c t s) := fun n w1 t s c h => (mkI n w1).mono fun e w' hh => ⟨hh.1, h.below hh.2⟩
  have HZ : Hid (∀ w1 t s c, Bs (fun g => g ≤ X) W w1 X (.slice a L cap) T S hb c t s → Calls Try.prog 19 #[] w1 fun e w' => e = .returned (.agg #[.int .i64 0, .int .i64 0, .string ⟨#[]⟩]) ∧ Bs (fun g => g ≤ X) W w' X (.slice a L cap) T S hb c t s) := fun w1 t s c h => (ref0_any w1).mono fun e w' hh => ⟨hh.1, h.below hh.2⟩
  have HL : Hid (∀ (n : Nat) w1 t s c, c ≤ 700000 → n < 1000 → Pos t.p (fun i => i ≤ (n : Int)) → Bs (fun g => g ≤ X) W w1 X (.slice a L cap) T S hb c t s → Calls Try.prog 12 #[.pointer (some ⟨T, 0, none⟩)] w1 fun e w' => e = .returned (.int .i64 (n : Nat)) ∧ ∃ t', Bs (fun g => g ≤ X) W w' X (.slice a L cap) T S hb (c + 130) t' s ∧ t'.p = t.p) := fun n w1 t s c hc hn ps h => (h.len hc).mono fun e w' hh => ⟨by rw [hh.1, (blen_bd h.ti.1 h.hh).row (by omega) ps], _, hh.2.1, (blen_st h.ti.1 h.hh).1⟩
  have HS : Hid (∀ (n k : Nat) (v : Int) w1 t s c, c ≤ 700000 → n < 1000 → k ≤ 400 → Pos t.p (fun i => i ≤ (n : Int)) → Sm t k → Bs (fun g => g ≤ X) W w1 X (.slice a L cap) T S hb c t s → Calls Try.prog 11 #[.pointer (some ⟨T, 0, none⟩), .agg #[.int .i64 2, .int .i64 ((n : Int) + 1), .string ⟨#[]⟩], .agg #[.int .i64 2, .int .i64 v, .string ⟨#[]⟩]] w1 fun e w' => e = .returned (.int .i64 0) ∧ ∃ t' s', Bs (fun g => g ≤ X) W w' X (.slice a L cap) T S hb (c + 7) t' s' ∧ Sm t' (k + 1) ∧ Pos t'.p (fun i => i ≤ ((n + 1 : Nat) : Int)) ∧ pget t'.p (kn ((n : Int) + 1)) = kn v) := fun n k v w1 t s c hc hn hk ps sm h => h.push hc hn hk ps sm v
  have HK : Hid (∀ (n k : Nat) w1 t s c, c ≤ 700000 → n < 1000 → k ≤ 400 → Pos t.p (fun i => i ≤ ((n + 1 : Nat) : Int)) → Sm t k → Bs (fun g => g ≤ X) W w1 X (.slice a L cap) T S hb c t s → Calls Try.prog 11 #[.pointer (some ⟨T, 0, none⟩), .agg #[.int .i64 2, .int .i64 ((n + 1 : Nat) : Int), .string ⟨#[]⟩], .agg #[.int .i64 0, .int .i64 0, .string ⟨#[]⟩]] w1 fun e w' => e = .returned (.int .i64 0) ∧ ∃ t' s', Bs (fun g => g ≤ X) W w' X (.slice a L cap) T S hb (c + 7) t' s' ∧ Sm t' (k + 1) ∧ Pos t'.p (fun i => i ≤ (n : Int))) := fun n k w1 t s c hc hn hk ps sm h => h.pop hc hn hk ps sm
  have HG : Hid (∀ (n : Int) w1 t s c, c ≤ 700000 → 0 ≤ n → n ≤ 1000 → Bs (fun g => g ≤ X) W w1 X (.slice a L cap) T S hb c t s → Calls Try.prog 13 #[.pointer (some ⟨T, 0, none⟩), .agg #[.int .i64 2, .int .i64 n, .string ⟨#[]⟩]] w1 fun e w' => e = .returned (.agg #[.int .i64 (pget t.p (kn n)).1, .int .i64 (pget t.p (kn n)).2.1, .string (pget t.p (kn n)).2.2]) ∧ ∃ t', t'.p = t.p ∧ Bs (fun g => g ≤ X) W w' X (.slice a L cap) T S hb (c + 1) t' s) := fun n w1 t s c hc h0 h1 h => (h.get hc (kn n) (rng_kn h0 (by omega))).mono fun e w' hh => ⟨hh.1, { t with pr := t.pr + (prd t.p (kn n) : Nat) }, rfl, hh.2.1⟩
  go_loopw [8, 9] (fun nw iw wr => ∃ n k : Nat, nw = .int .i64 (n : Nat) ∧ iw = .int .i64 (k : Nat) ∧ n ≤ k ∧ k ≤ PL ∧ k ≤ 300 ∧ Hid (∃ t s, Bs (fun g => g ≤ X) W wr X (.slice a L cap) T S hb (3 + 300 * k) t s ∧ Sm t k ∧ Pos t.p (fun i => i ≤ (n : Int)))) (fun _ iw _ => 300 - (intOf iw).toNat)
  case atStart => exact ⟨0, 0, rfl, rfl, by omega, by omega, by omega, t0, s0, H0.out, HP0.out.1, HP0.out.2.iff (fun i g _ => by simp; omega)⟩
  case round =>
    obtain ⟨n, k, rfl, rfl, hnk, hk, hk3, HR0⟩ := hrel
    obtain ⟨t, s, HR, sm, ps⟩ := HR0.out
    clear H0 HR0 HP0
    by_cases hlt : k < PL
    · by_cases hlt3 : k < 300
      · have hlt' : (k : Int) < (PL : Int) := by omega
        have hlt3' : (k : Int) < 300 := by omega
        have hk0 : ¬ ((k : Int) < 0) := by omega
        obtain ⟨pb, po, rfl, p0⟩ := HPB.out wr HR.bel k hlt
        have hwi : IntKind.i64.wrap ((k : Int) + 1) = (k : Int) + 1 := by rw [IntKind.wrap_i64]; omega
        have hwn : IntKind.i64.wrap ((n : Int) + 1) = (n : Int) + 1 := by rw [IntKind.wrap_i64]; omega
        cases hB : B k with
        | true =>
          rw [hB] at p0
          have C5 := HL.out n wr t s _ (by omega) (by omega) ps HR
          have HP1 : Hid _ := And.intro sm ps
          clear HR sm ps hB
          go_wp2_with fail
          refine C5.mono ?_; rintro e W5 ⟨rfl, t5, b5, ep5⟩
          have HP2 : Hid (Sm t5 k ∧ Pos t5.p (fun i => i ≤ (n : Int))) := ⟨HP1.out.1.like ep5, by rw [ep5]; exact HP1.out.2⟩
          have C6 := HI.out ((n : Int) + 1) W5 _ _ _ b5
          clear C5 b5 ep5 HP1
          go_wp2_with fail
          refine C6.mono ?_; rintro e W6 ⟨rfl, b6⟩
          have C7 := HI.out (k : Int) W6 _ _ _ b6
          clear C6 b6
          go_wp2_with fail
          refine C7.mono ?_; rintro e W7 ⟨rfl, b7⟩
          have C8 := HS.out n k (k : Int) W7 _ _ _ (by omega) (by omega) (by omega) HP2.out.2 HP2.out.1 b7
          clear C7 b7 HP2
          go_wp2_with fail
          refine C8.mono ?_; rintro e W8 ⟨rfl, t8, s8, b8, sm8, ps8, eg8⟩
          have HP3 : Hid (Sm t8 (k + 1) ∧ Pos t8.p (fun i => i ≤ ((n + 1 : Nat) : Int)) ∧ pget t8.p (kn ((n : Int) + 1)) = kn (k : Int)) := ⟨sm8, ps8, eg8⟩
          have C9 := HI.out ((n : Int) + 1) W8 _ _ _ b8
          clear C8 b8 sm8 ps8 eg8
          go_wp2_with fail
          refine C9.mono ?_; rintro e W9 ⟨rfl, b9⟩
          have Ca := HG.out ((n : Int) + 1) W9 _ _ _ (by omega) (by omega) (by omega) b9
          rw [HP3.out.2.2] at Ca
          clear C9 b9
          go_wp2_with fail
          refine Ca.mono ?_; rintro e Wa ⟨rfl, ta, epa, ba⟩
          have HP4 : Hid (Sm ta (k + 1) ∧ Pos ta.p (fun i => i ≤ ((n + 1 : Nat) : Int))) := ⟨HP3.out.1.like epa, by rw [epa]; exact HP3.out.2.1⟩
          have Cb := HI.out (k : Int) Wa _ _ _ ba
          clear Ca ba HP3 epa
          go_wp2_with fail
          refine Cb.mono ?_; rintro e Wb ⟨rfl, bb⟩
          have Cc := HL.out (n + 1) Wb _ _ _ (by omega) (by omega) HP4.out.2 bb
          have hq2 : ∀ W', (binOp .neq 31 (vl 2 (k : Int) ⟨#[]⟩) (vl 2 (k : Int) ⟨#[]⟩)).run Try.prog W' = .ok (.bool false) W' := fun W' => by rw [neq32]; simp
          unfold vl at hq2
          clear Cb bb
          go_wp2_with fail
          refine Cc.mono ?_; rintro e Wc ⟨rfl, tc, bc, epc⟩
          have H9 : Hid _ := And.intro bc epc
          clear Cc bc epc
          go_wp2_with fail
          go_round
          case rel => exact ⟨n + 1, k + 1, by go_num, by go_num, by omega, by omega, by omega, _, _, H9.out.1.more (by omega), HP4.out.1.like H9.out.2, by rw [H9.out.2]; exact HP4.out.2⟩
          case measure => simp [intOf]; omega
        | false =>
          rw [hB] at p0
          cases n with
          | zero =>
            have C5 := HL.out 0 wr t s _ (by omega) (by omega) ps HR
            have HP1 : Hid _ := And.intro sm ps
            clear HR sm ps hB
            go_wp2_with fail
            refine C5.mono ?_; rintro e W5 ⟨rfl, t5, b5, ep5⟩
            have H9 : Hid _ := And.intro b5 ep5
            clear C5 b5 ep5
            go_wp2_with fail
            go_round
            case rel => exact ⟨0, k + 1, by go_num, by go_num, by omega, by omega, by omega, _, _, H9.out.1.more (by omega), ⟨(HP1.out.1.like H9.out.2).n, (HP1.out.1.like H9.out.2).z, Nat.le_succ_of_le (HP1.out.1.like H9.out.2).pr⟩, by rw [H9.out.2]; exact HP1.out.2⟩
            case measure => simp [intOf]; omega
          | succ n =>
            have hn0 : (0 : Int) < ((n + 1 : Nat) : Int) := by omega
            have hwm : IntKind.i64.wrap (((n + 1 : Nat) : Int) - 1) = (n : Int) := by rw [IntKind.wrap_i64]; omega
            have C5 := HL.out (n + 1) wr t s _ (by omega) (by omega) ps HR
            have HP1 : Hid _ := And.intro sm ps
            clear HR sm ps hB hwn
            generalize hN : ((n + 1 : Nat) : Int) = N1 at *
            go_wp2_with fail
            refine C5.mono ?_; rintro e W5 ⟨rfl, t5, b5, ep5⟩
            have HP2 : Hid (Sm t5 k ∧ Pos t5.p (fun i => i ≤ N1)) := ⟨HP1.out.1.like ep5, by rw [ep5]; exact HP1.out.2⟩
            have C6 := HI.out N1 W5 _ _ _ b5
            clear C5 b5 ep5 HP1
            go_wp2_with fail
            refine C6.mono ?_; rintro e W6 ⟨rfl, b6⟩
            have C7 := HZ.out W6 _ _ _ b6
            clear C6 b6
            go_wp2_with fail
            refine C7.mono ?_; rintro e W7 ⟨rfl, b7⟩
            have C8 := HK.out n k W7 _ _ _ (by omega) (by omega) (by omega) (by rw [hN]; exact HP2.out.2) HP2.out.1 b7
            rw [hN] at C8
            clear C7 b7 HP2
            go_wp2_with fail
            refine C8.mono ?_; rintro e W8 ⟨rfl, t8, s8, b8, sm8, ps8⟩
            have HP3 : Hid (Sm t8 (k + 1) ∧ Pos t8.p (fun i => i ≤ (n : Int))) := ⟨sm8, ps8⟩
            have Cc := HL.out n W8 _ _ _ (by omega) (by omega) ps8 b8
            clear C8 b8 sm8 ps8
            go_wp2_with fail
            refine Cc.mono ?_; rintro e Wc ⟨rfl, tc, bc, epc⟩
            have H9 : Hid _ := And.intro bc epc
            clear Cc bc epc
            go_wp2_with fail
            go_round
            case rel => exact ⟨n, k + 1, by go_num, by go_num, by omega, by omega, by omega, _, _, H9.out.1.more (by omega), HP3.out.1.like H9.out.2, by rw [H9.out.2]; exact HP3.out.2⟩
            case measure => simp [intOf]; omega
      · have hlt3' : ¬ ((k : Int) < 300) := by omega
        have hlt' : (k : Int) < (PL : Int) := by omega
        have hmx : (n : Int) < 9223372036854775807 := by omega
        have HBe : Hid _ := HR.bel
        clear HR sm ps hnk hk hk3 hlt hlt3
        go_wp2_with fail
        go_ret
        first | exact ⟨rfl, HBe.out⟩ | exact ⟨rfl, by rw [HX.out]; exact HBe.out⟩
    · obtain rfl : k = PL := by omega
      have hlt' : ¬ ((k : Int) < (k : Int)) := by omega
      have hmx : (n : Int) < 9223372036854775807 := by omega
      go_wp2_with fail
      go_ret
      first | exact ⟨rfl, HR.bel⟩ | exact ⟨rfl, by rw [HX.out]; exact HR.bel⟩
end Go.Proofs.Ythlgeohncpmaaaa
