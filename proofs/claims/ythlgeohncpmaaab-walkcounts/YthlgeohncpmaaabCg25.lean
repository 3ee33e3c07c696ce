/- The walk of WalkCounts. -/
import Derived.Test.YthlgeohncpmaaabCg24
namespace Go.Proofs.Ythlgeohncpmaaab
open Go.RowKit

set_option maxRecDepth 20000 in
set_option maxHeartbeats 4000000 in
theorem wcounts_walk (x y : Int) (a : Option Addr) (L cap : Nat) (W : World) (Q : Nat → Int × V × V) (hO : Ops W.heap.size W a L Q) (kk : V) (hkr : Rng kk) :
    Calls Try.prog 7 #[cw x y (.slice a L cap), vv kk] W fun e w' => e = .returned (.bool true) ∧ Below W.heap.size W w' := by
  obtain ⟨B0, hl0, x0, x1, x2⟩ := start_case x y a L cap W
  have Bk := b1 (W.alloc (.cells #[.int .i64 x, .int .i64 y, .slice a L cap] 24)) (vb kk.1 kk.2.1 kk.2.2)
  have kx0 := Bx.made (W.alloc (.cells #[.int .i64 x, .int .i64 y, .slice a L cap] 24)) kk
  rw [show (W.alloc (.cells #[.int .i64 x, .int .i64 y, .slice a L cap] 24)).heap.size = W.heap.size + 1 by simp] at kx0
  obtain ⟨hl0', x0', x1', x2'⟩ := start_fixed hl0 x0 x1 x2 Bk
  have B0' := bthen B0 B0.size Bk
  clear B0 hl0 x0 x1 x2
  obtain ⟨W0, hW0⟩ : ∃ W0, (W.alloc (.cells #[.int .i64 x, .int .i64 y, .slice a L cap] 24)).alloc (vb kk.1 kk.2.1 kk.2.2) = W0 := ⟨_, rfl⟩
  rw [hW0] at B0' hl0' x0' x1' x2' kx0
  have B0 := B0'
  have hl0 := hl0'
  have x0 := x0'
  have x1 := x1'
  have x2 := x2'
  clear B0' hl0' x0' x1' x2' Bk
  unfold vb at hW0
  obtain ⟨X, hX⟩ : ∃ X, W.heap.size = X := ⟨_, rfl⟩
  rw [hX] at B0 hl0 x0 x1 x2 hO kx0
  have HX : Hid (W.heap.size = X) := hX
  have C1 := fixed_any W0
  have HO : Hid (∀ w', Below X W w' → Ops X w' a L Q) := fun w' k => hO.below k
  have HB0 : Hid (Below X W W0) := B0
  have HF : Hid (∀ W1, Below W0.heap.size W0 W1 → (X < W1.heap.size ∧ W1.cell? ⟨X, 0, none⟩ = some (.int .i64 x) ∧ W1.cell? ⟨X, 1, none⟩ = some (.int .i64 y) ∧ W1.cell? ⟨X, 2, none⟩ = some (.slice a L cap)) ∧ (X + 1 < W1.heap.size ∨ (X < W1.heap.size ∧ ((some kk) : Option V) = none)) ∧ ∀ k, ((some kk) : Option V) = some k → Bx W1 (X + 1) k) := fun W1 k => ⟨start_fixed hl0 x0 x1 x2 k, Or.inl (Nat.lt_of_lt_of_le kx0.lt k.size), fun k' e => by cases e; exact kx0.below k⟩
  have HN : Hid (X ≤ W0.heap.size) := Nat.le_of_lt hl0
  clear B0 hO
  unfold cw vv vl
  go_enter Try.func7, Try.ntmps7
  go_wp2_with fail
  refine C1.mono ?_; rintro e W1 ⟨rfl, k1⟩
  obtain ⟨⟨hl1, y0, y1, y2⟩, hz1, hk1⟩ := HF.out W1 k1
  have C2 := begin_any x y (.slice a L cap) W1
  have HB1 : Hid (Below X W W1) := bthen HB0.out HN.out k1
  unfold cw tp at C2
  have HL1 : Hid _ := And.intro hz1 (And.intro hk1 y2)
  clear C1 k1
  go_wp2_with fail
  refine C2.mono ?_; rintro e W2 ⟨T, A, b, a', S, hb, RT, t0, s0, rfl, tt, bw, st, _⟩
  have HZ1 : Hid (X + 1 < W1.heap.size ∨ (X < W1.heap.size ∧ ((some kk) : Option V) = none)) := hz1
  have H0 : Hid (Ws (fun g => g < W1.heap.size) W W2 X (.slice a L cap) (some kk) T S hb 3 t0 s0) := ws_of tt bw HL1.out.1 HL1.out.2.1 HB1.out HL1.out.2.2
  generalize (fun g => g < W1.heap.size) = P1 at *
  have HS0 : Hid (pres t0.p = []) := st.pr
  clear C2 tt bw st y0 y1 y2 x0 x1 x2 hl1 hz1 hk1
  go_wp2_with fail
  go_loopw [8] (fun iw wr => ∃ k : Nat, iw = .int .i64 (k : Nat) ∧ k ≤ L ∧ k ≤ 300 ∧ Hid (∃ t s, Ws P1 W wr X (.slice a L cap) (some kk) T S hb (3 + 7 * k) t s)) (fun iw _ => 300 - (intOf iw).toNat)
  case atStart => exact ⟨0, rfl, by omega, by omega, t0, s0, H0.out⟩
  case round =>
    obtain ⟨k, rfl, hk, hk3, HR0⟩ := hrel
    obtain ⟨t, s, HR⟩ := HR0.out
    clear H0 HR0
    have xc := HR.xc
    by_cases hlt : k < L
    · by_cases hlt3 : k < 300
      · have hlt' : (k : Int) < (L : Int) := by omega
        have hlt3' : (k : Int) < 300 := by omega
        have hk0 : ¬ ((k : Int) < 0) := by omega
        obtain ⟨lb, off, rfl, hlb, i0, i1, i2, i3, i4, i5, i6⟩ := (HO.out wr HR.bel).at hlt
        have hr := ((HO.out wr HR.bel).1 k hlt)
        have hwi : IntKind.i64.wrap ((k : Int) + 1) = (k : Int) + 1 := by rw [IntKind.wrap_i64]; omega
        have CS := (HR.below (bdrew1 wr)).set (by omega) (Q k).2.1 (Q k).2.2 hr
        unfold vv vl tp at CS
        generalize Q k = q at *
        clear HR
        go_wp2_with fail
        refine wp_tail 13 (by kernel_rfl) (by kernel_rfl) ?_
        simp only [List.take_succ_cons, List.take_zero, List.drop_succ_cons, List.drop_zero]
        repeat still_step
        refine wpStill_nil ?_
        go_wp2_with fail
        refine CS.mono ?_; rintro e W4 ⟨rfl, b4, _⟩
        have H4 : Hid _ := b4
        clear CS b4
        go_wp2_with fail
        go_round
        case rel => exact ⟨k + 1, by go_num, by omega, by omega, _, _, H4.out⟩
        case measure => simp [intOf]; omega
      · have hlt3' : ¬ ((k : Int) < 300) := by omega
        have hlt' : (k : Int) < (L : Int) := by omega
        clear hlt3 hlt
        have HT : Hid (Ws P1 W wr X (.slice a L cap) (some kk) T S hb (3 + 7 * k) t s) := HR
        have C3 := HR.probes
        unfold tp at C3
        have kb := (HR.lk kk rfl).2
        have kc0 := kb.c0
        have kc1 := kb.c1
        have kc2 := kb.c2
        have C4 := HR.place (by omega) kk hkr
        unfold tp vv vl at C4
        clear HR kb
        go_wp2_with fail
        refine C3.mono ?_; rintro e w3 ⟨rfl, hw3⟩; rw [hw3]; clear hw3 C3 w3
        go_wp2_with fail
        refine C4.mono ?_; rintro e W4 ⟨rfl, h4, _⟩
        have C5 := h4.probes
        have kb4 := (h4.lk kk rfl).2
        have kd0 := kb4.c0
        have kd1 := kb4.c1
        have kd2 := kb4.c2
        have C6 := h4.next (by omega) kk hkr
        rw [show (if fm kk = true ∧ kk.1 ≠ 0 then prd ({ t with pr := t.pr + (prd t.p kk : Nat) } : TS).p kk else 0 : Nat) = prd t.p kk from prd_if t.p kk] at C6
        unfold tp at C5
        unfold tp vv vl at C6
        clear C4 h4 kb4 kc0 kc1 kc2
        go_wp2_with fail
        refine C5.mono ?_; rintro e w5 ⟨rfl, hw5⟩; rw [hw5]; clear hw5 C5 w5
        go_wp2_with fail
        refine C6.mono ?_; rintro e W6 ⟨rfl, h6, _⟩
        have C7 := h6.probes
        have C8 := h6.next (by omega) nil (by constructor <;> simp [nil])
        unfold tp at C7
        unfold tp vv vl nil at C8
        clear C6 h6 kd0 kd1 kd2
        go_wp2_with fail
        refine C7.mono ?_; rintro e w7 ⟨rfl, hw7⟩; rw [hw7]; clear hw7 C7 w7
        go_wp2_with fail
        refine C8.mono ?_; rintro e W8 ⟨rfl, h8, _⟩
        rw [if_neg (fun q => q.2 rfl)] at h8
        have C9 := h8.list
        unfold tp at C9
        have H8 : Hid _ := h8
        clear C8 h8
        go_wp2_with fail
        refine C9.mono ?_; rintro e W9 ⟨v9, rfl, _, k9⟩
        have h9 := H8.out.below k9
        have Ca := h9.probes
        have HT9 : Hid (∃ t' : TS, t'.p = t.p ∧ Ws P1 W W9 X (.slice a L cap) (some kk) T S hb (3 + 7 * k + 1 + 1 + 1) t' s) := ⟨{ t with pr := t.pr + ((prd t.p kk : Nat) : Int) + ((prd t.p kk : Nat) : Int) + ((0 : Nat) : Int) }, rfl, h9⟩
        have hpr : ∃ A b a, TT P1 wr T A b a S hb (3 + 7 * k) t s := HT.out.tt
        obtain ⟨A', b', a'', ht⟩ := hpr
        have hp0 := ht.p0
        have hp1 := ht.p1
        have hprd : prd t.p kk ≤ 65536 := by
          have := fnd_le (k := kk) ht.ti.inv ht.ti.rt
          have := ht.ti.rt.le
          unfold prd; split <;> omega
        unfold tp at Ca
        clear C9 k9 h9 H8 ht
        simp only [Int.natCast_zero, Int.add_zero] at Ca
        have hw1 : IntKind.i64.wrap (t.pr + (prd t.p kk : Int) + (prd t.p kk : Int) - (t.pr + (prd t.p kk : Int))) = (prd t.p kk : Int) := by rw [IntKind.wrap_i64]; omega
        have hw2 : IntKind.i64.wrap (t.pr + (prd t.p kk : Int) - t.pr) = (prd t.p kk : Int) := by rw [IntKind.wrap_i64]; omega
        have hn1 : (t.pr + (prd t.p kk : Int) + (prd t.p kk : Int) != t.pr + (prd t.p kk : Int) + (prd t.p kk : Int)) = false := by simp
        have hn2 : ((prd t.p kk : Int) != (prd t.p kk : Int)) = false := by simp
        go_wp2_with fail
        refine Ca.mono ?_; rintro e wa ⟨rfl, hwa⟩; rw [hwa]; clear hwa Ca wa
        obtain ⟨t', etp, h9⟩ := HT9.out
        have kb9 := (h9.lk kk rfl).2
        have hfs := fldS0
        obtain ⟨XX, F, F1, F2⟩ := class_of W9
        have HC : Hid (∃ x, W9.drew = F x) := F2 _ (bdrew1 W9)
        have hSt : ∀ x, Calls Try.prog 17 #[.pointer (some ⟨T, 0, none⟩)] (F x) fun e w'' => e = .returned (.agg #[.int .i64 (t.p.n : Nat), .int .i64 (t'.p.z : Nat), .int .i64 (t'.p.g.f : Nat), .int .i64 t'.hint]) ∧ ∃ y, w'' = F y := fun x => ((h9.below (F1 x)).stats).mono fun e w' hh => by
          rw [← etp]
          exact ⟨hh.1, F2 _ (bthen (F1 x) (F1 x).size hh.2)⟩
        have e0 : ∀ x, (F x).cell? ⟨X + 1, 0, none⟩ = some (.int .i64 kk.1) := fun x => (kb9.below (F1 x)).c0
        have e1 : ∀ x, (F x).cell? ⟨X + 1, 1, none⟩ = some (.int .i64 kk.2.1) := fun x => (kb9.below (F1 x)).c1
        have e2 : ∀ x, (F x).cell? ⟨X + 1, 2, none⟩ = some (.string kk.2.2) := fun x => (kb9.below (F1 x)).c2
        have HBe : Hid (∀ x, Below W.heap.size W (F x)) := fun x => by rw [hX]; exact (h9.below (F1 x)).bel
        have HEq : Hid (inA t.p.n kk → (t.pr + (prd t.p kk : Int) + (prd t.p kk : Int) == t.pr) = true) := fun q => by rw [prd_A q]; simp
        clear h9 kb9 etp HT9 hp0 hp1 hprd HT F1 F2
        go_upto_region 19 with fail
        by_cases c1 : kk.1 = 2
        · have g1 : (kk.1 != 2) = false := by simp [c1]
          by_cases c2 : kk.2.2.toList = []
          · have g2 : (kk.2.2.toList != []) = false := by simp [c2]
            have g2' : kk.2.2.toList.isEmpty = true := by simp [c2]
            by_cases c3 : kk.2.1 < 1
            · have g3 : decide (kk.2.1 < 1) = true := by simp [c3]
              clear c1 c2 HEq
              haveI : Nonempty XX := HC.out.elim fun x _ => ⟨x⟩
              refine wp_class (F := F) (by kernel_rfl) (by kernel_rfl) HC.out ?_
              repeat (go_big_quiet_step (exact hSt _))
              refine wpQuiet_nil ?_
              intro _ hw'
              obtain ⟨x9, rfl⟩ := hw'
              have HX5 : Hid _ := HBe.out x9
              go_wp2_with fail
              go_ret
              first | exact ⟨rfl, HX5.out⟩ | exact ⟨rfl, by have := HX5.out; rw [hX] at this; exact this⟩
            · have g3 : decide (kk.2.1 < 1) = false := by simp [c3]
              by_cases c4 : (t.p.n : Int) < kk.2.1
              · have g4 : decide ((t.p.n : Int) < kk.2.1) = true := by simp [c4]
                clear c1 c2 HEq
                haveI : Nonempty XX := HC.out.elim fun x _ => ⟨x⟩
                refine wp_class (F := F) (by kernel_rfl) (by kernel_rfl) HC.out ?_
                repeat (go_big_quiet_step (exact hSt _))
                refine wpQuiet_nil ?_
                intro _ hw'
                obtain ⟨x9, rfl⟩ := hw'
                have HX5 : Hid _ := HBe.out x9
                go_wp2_with fail
                go_ret
                first | exact ⟨rfl, HX5.out⟩ | exact ⟨rfl, by have := HX5.out; rw [hX] at this; exact this⟩
              · have g5 := HEq.out ⟨c1, by rw [← bytes_iff]; simpa [ByteArray.toList_eq] using c2, by omega, by omega⟩
                have g4 : decide ((t.p.n : Int) < kk.2.1) = false := by simp [c4]
                clear c1 c2 HEq
                haveI : Nonempty XX := HC.out.elim fun x _ => ⟨x⟩
                refine wp_class (F := F) (by kernel_rfl) (by kernel_rfl) HC.out ?_
                repeat (go_big_quiet_step (exact hSt _))
                refine wpQuiet_nil ?_
                intro _ hw'
                obtain ⟨x9, rfl⟩ := hw'
                have HX5 : Hid _ := HBe.out x9
                go_wp2_with fail
                go_ret
                first | exact ⟨rfl, HX5.out⟩ | exact ⟨rfl, by have := HX5.out; rw [hX] at this; exact this⟩
          · have g2 : (kk.2.2.toList != []) = true := by simp [c2]
            have g2' : kk.2.2.toList.isEmpty = false := by simp [c2]
            clear c1 c2 HEq
            haveI : Nonempty XX := HC.out.elim fun x _ => ⟨x⟩
            refine wp_class (F := F) (by kernel_rfl) (by kernel_rfl) HC.out ?_
            repeat (go_big_quiet_step (exact hSt _))
            refine wpQuiet_nil ?_
            intro _ hw'
            obtain ⟨x9, rfl⟩ := hw'
            have HX5 : Hid _ := HBe.out x9
            go_wp2_with fail
            go_ret
            first | exact ⟨rfl, HX5.out⟩ | exact ⟨rfl, by have := HX5.out; rw [hX] at this; exact this⟩
        · have g1 : (kk.1 != 2) = true := by simp [c1]
          clear c1 HEq
          haveI : Nonempty XX := HC.out.elim fun x _ => ⟨x⟩
          refine wp_class (F := F) (by kernel_rfl) (by kernel_rfl) HC.out ?_
          repeat (go_big_quiet_step (exact hSt _))
          refine wpQuiet_nil ?_
          intro _ hw'
          obtain ⟨x9, rfl⟩ := hw'
          have HX5 : Hid _ := HBe.out x9
          go_wp2_with fail
          go_ret
          first | exact ⟨rfl, HX5.out⟩ | exact ⟨rfl, by have := HX5.out; rw [hX] at this; exact this⟩
    · have hlt' : ¬ ((k : Int) < (L : Int)) := by omega
      clear hlt
      have HT : Hid (Ws P1 W wr X (.slice a L cap) (some kk) T S hb (3 + 7 * k) t s) := HR
      have C3 := HR.probes
      unfold tp at C3
      have kb := (HR.lk kk rfl).2
      have kc0 := kb.c0
      have kc1 := kb.c1
      have kc2 := kb.c2
      have C4 := HR.place (by omega) kk hkr
      unfold tp vv vl at C4
      clear HR kb
      go_wp2_with fail
      refine C3.mono ?_; rintro e w3 ⟨rfl, hw3⟩; rw [hw3]; clear hw3 C3 w3
      go_wp2_with fail
      refine C4.mono ?_; rintro e W4 ⟨rfl, h4, _⟩
      have C5 := h4.probes
      have kb4 := (h4.lk kk rfl).2
      have kd0 := kb4.c0
      have kd1 := kb4.c1
      have kd2 := kb4.c2
      have C6 := h4.next (by omega) kk hkr
      rw [show (if fm kk = true ∧ kk.1 ≠ 0 then prd ({ t with pr := t.pr + (prd t.p kk : Nat) } : TS).p kk else 0 : Nat) = prd t.p kk from prd_if t.p kk] at C6
      unfold tp at C5
      unfold tp vv vl at C6
      clear C4 h4 kb4 kc0 kc1 kc2
      go_wp2_with fail
      refine C5.mono ?_; rintro e w5 ⟨rfl, hw5⟩; rw [hw5]; clear hw5 C5 w5
      go_wp2_with fail
      refine C6.mono ?_; rintro e W6 ⟨rfl, h6, _⟩
      have C7 := h6.probes
      have C8 := h6.next (by omega) nil (by constructor <;> simp [nil])
      unfold tp at C7
      unfold tp vv vl nil at C8
      clear C6 h6 kd0 kd1 kd2
      go_wp2_with fail
      refine C7.mono ?_; rintro e w7 ⟨rfl, hw7⟩; rw [hw7]; clear hw7 C7 w7
      go_wp2_with fail
      refine C8.mono ?_; rintro e W8 ⟨rfl, h8, _⟩
      rw [if_neg (fun q => q.2 rfl)] at h8
      have C9 := h8.list
      unfold tp at C9
      have H8 : Hid _ := h8
      clear C8 h8
      go_wp2_with fail
      refine C9.mono ?_; rintro e W9 ⟨v9, rfl, _, k9⟩
      have h9 := H8.out.below k9
      have Ca := h9.probes
      have HT9 : Hid (∃ t' : TS, t'.p = t.p ∧ Ws P1 W W9 X (.slice a L cap) (some kk) T S hb (3 + 7 * k + 1 + 1 + 1) t' s) := ⟨{ t with pr := t.pr + ((prd t.p kk : Nat) : Int) + ((prd t.p kk : Nat) : Int) + ((0 : Nat) : Int) }, rfl, h9⟩
      have hpr : ∃ A b a, TT P1 wr T A b a S hb (3 + 7 * k) t s := HT.out.tt
      obtain ⟨A', b', a'', ht⟩ := hpr
      have hp0 := ht.p0
      have hp1 := ht.p1
      have hprd : prd t.p kk ≤ 65536 := by
        have := fnd_le (k := kk) ht.ti.inv ht.ti.rt
        have := ht.ti.rt.le
        unfold prd; split <;> omega
      unfold tp at Ca
      clear C9 k9 h9 H8 ht
      simp only [Int.natCast_zero, Int.add_zero] at Ca
      have hw1 : IntKind.i64.wrap (t.pr + (prd t.p kk : Int) + (prd t.p kk : Int) - (t.pr + (prd t.p kk : Int))) = (prd t.p kk : Int) := by rw [IntKind.wrap_i64]; omega
      have hw2 : IntKind.i64.wrap (t.pr + (prd t.p kk : Int) - t.pr) = (prd t.p kk : Int) := by rw [IntKind.wrap_i64]; omega
      have hn1 : (t.pr + (prd t.p kk : Int) + (prd t.p kk : Int) != t.pr + (prd t.p kk : Int) + (prd t.p kk : Int)) = false := by simp
      have hn2 : ((prd t.p kk : Int) != (prd t.p kk : Int)) = false := by simp
      go_wp2_with fail
      refine Ca.mono ?_; rintro e wa ⟨rfl, hwa⟩; rw [hwa]; clear hwa Ca wa
      obtain ⟨t', etp, h9⟩ := HT9.out
      have kb9 := (h9.lk kk rfl).2
      have hfs := fldS0
      obtain ⟨XX, F, F1, F2⟩ := class_of W9
      have HC : Hid (∃ x, W9.drew = F x) := F2 _ (bdrew1 W9)
      have hSt : ∀ x, Calls Try.prog 17 #[.pointer (some ⟨T, 0, none⟩)] (F x) fun e w'' => e = .returned (.agg #[.int .i64 (t.p.n : Nat), .int .i64 (t'.p.z : Nat), .int .i64 (t'.p.g.f : Nat), .int .i64 t'.hint]) ∧ ∃ y, w'' = F y := fun x => ((h9.below (F1 x)).stats).mono fun e w' hh => by
        rw [← etp]
        exact ⟨hh.1, F2 _ (bthen (F1 x) (F1 x).size hh.2)⟩
      have e0 : ∀ x, (F x).cell? ⟨X + 1, 0, none⟩ = some (.int .i64 kk.1) := fun x => (kb9.below (F1 x)).c0
      have e1 : ∀ x, (F x).cell? ⟨X + 1, 1, none⟩ = some (.int .i64 kk.2.1) := fun x => (kb9.below (F1 x)).c1
      have e2 : ∀ x, (F x).cell? ⟨X + 1, 2, none⟩ = some (.string kk.2.2) := fun x => (kb9.below (F1 x)).c2
      have HBe : Hid (∀ x, Below W.heap.size W (F x)) := fun x => by rw [hX]; exact (h9.below (F1 x)).bel
      have HEq : Hid (inA t.p.n kk → (t.pr + (prd t.p kk : Int) + (prd t.p kk : Int) == t.pr) = true) := fun q => by rw [prd_A q]; simp
      clear h9 kb9 etp HT9 hp0 hp1 hprd HT F1 F2
      go_upto_region 19 with fail
      by_cases c1 : kk.1 = 2
      · have g1 : (kk.1 != 2) = false := by simp [c1]
        by_cases c2 : kk.2.2.toList = []
        · have g2 : (kk.2.2.toList != []) = false := by simp [c2]
          have g2' : kk.2.2.toList.isEmpty = true := by simp [c2]
          by_cases c3 : kk.2.1 < 1
          · have g3 : decide (kk.2.1 < 1) = true := by simp [c3]
            clear c1 c2 HEq
            haveI : Nonempty XX := HC.out.elim fun x _ => ⟨x⟩
            refine wp_class (F := F) (by kernel_rfl) (by kernel_rfl) HC.out ?_
            repeat (go_big_quiet_step (exact hSt _))
            refine wpQuiet_nil ?_
            intro _ hw'
            obtain ⟨x9, rfl⟩ := hw'
            have HX5 : Hid _ := HBe.out x9
            go_wp2_with fail
            go_ret
            first | exact ⟨rfl, HX5.out⟩ | exact ⟨rfl, by have := HX5.out; rw [hX] at this; exact this⟩
          · have g3 : decide (kk.2.1 < 1) = false := by simp [c3]
            by_cases c4 : (t.p.n : Int) < kk.2.1
            · have g4 : decide ((t.p.n : Int) < kk.2.1) = true := by simp [c4]
              clear c1 c2 HEq
              haveI : Nonempty XX := HC.out.elim fun x _ => ⟨x⟩
              refine wp_class (F := F) (by kernel_rfl) (by kernel_rfl) HC.out ?_
              repeat (go_big_quiet_step (exact hSt _))
              refine wpQuiet_nil ?_
              intro _ hw'
              obtain ⟨x9, rfl⟩ := hw'
              have HX5 : Hid _ := HBe.out x9
              go_wp2_with fail
              go_ret
              first | exact ⟨rfl, HX5.out⟩ | exact ⟨rfl, by have := HX5.out; rw [hX] at this; exact this⟩
            · have g5 := HEq.out ⟨c1, by rw [← bytes_iff]; simpa [ByteArray.toList_eq] using c2, by omega, by omega⟩
              have g4 : decide ((t.p.n : Int) < kk.2.1) = false := by simp [c4]
              clear c1 c2 HEq
              haveI : Nonempty XX := HC.out.elim fun x _ => ⟨x⟩
              refine wp_class (F := F) (by kernel_rfl) (by kernel_rfl) HC.out ?_
              repeat (go_big_quiet_step (exact hSt _))
              refine wpQuiet_nil ?_
              intro _ hw'
              obtain ⟨x9, rfl⟩ := hw'
              have HX5 : Hid _ := HBe.out x9
              go_wp2_with fail
              go_ret
              first | exact ⟨rfl, HX5.out⟩ | exact ⟨rfl, by have := HX5.out; rw [hX] at this; exact this⟩
        · have g2 : (kk.2.2.toList != []) = true := by simp [c2]
          have g2' : kk.2.2.toList.isEmpty = false := by simp [c2]
          clear c1 c2 HEq
          haveI : Nonempty XX := HC.out.elim fun x _ => ⟨x⟩
          refine wp_class (F := F) (by kernel_rfl) (by kernel_rfl) HC.out ?_
          repeat (go_big_quiet_step (exact hSt _))
          refine wpQuiet_nil ?_
          intro _ hw'
          obtain ⟨x9, rfl⟩ := hw'
          have HX5 : Hid _ := HBe.out x9
          go_wp2_with fail
          go_ret
          first | exact ⟨rfl, HX5.out⟩ | exact ⟨rfl, by have := HX5.out; rw [hX] at this; exact this⟩
      · have g1 : (kk.1 != 2) = true := by simp [c1]
        clear c1 HEq
        haveI : Nonempty XX := HC.out.elim fun x _ => ⟨x⟩
        refine wp_class (F := F) (by kernel_rfl) (by kernel_rfl) HC.out ?_
        repeat (go_big_quiet_step (exact hSt _))
        refine wpQuiet_nil ?_
        intro _ hw'
        obtain ⟨x9, rfl⟩ := hw'
        have HX5 : Hid _ := HBe.out x9
        go_wp2_with fail
        go_ret
        first | exact ⟨rfl, HX5.out⟩ | exact ⟨rfl, by have := HX5.out; rw [hX] at this; exact this⟩
end Go.Proofs.Ythlgeohncpmaaab
