/- The walk of WalkOrder. -/
import Derived.Test.YthlgeohncpmaaabCg26
namespace Go.Proofs.Ythlgeohncpmaaab
open Go.RowKit

set_option maxRecDepth 20000 in
set_option maxHeartbeats 4000000 in
theorem worder_walk (x y : Int) (a : Option Addr) (L cap : Nat) (W : World) (Q : Nat → Int × V × V) (hO : Ops W.heap.size W a L Q) :
    Calls Try.prog 6 #[cw x y (.slice a L cap)] W fun e w' => e = .returned (.bool true) ∧ Below W.heap.size W w' := by
  obtain ⟨B0, hl0, x0, x1, x2⟩ := start_case x y a L cap W
  obtain ⟨W0, hW0⟩ : ∃ W0, W.alloc (.cells #[.int .i64 x, .int .i64 y, .slice a L cap] 24) = W0 := ⟨_, rfl⟩
  rw [hW0] at B0 hl0 x0 x1 x2
  obtain ⟨X, hX⟩ : ∃ X, W.heap.size = X := ⟨_, rfl⟩
  rw [hX] at B0 hl0 x0 x1 x2 hO
  have HX : Hid (W.heap.size = X) := hX
  have C1 := fixed_any W0
  have HO : Hid (∀ w', Below X W w' → Ops X w' a L Q) := fun w' k => hO.below k
  have HB0 : Hid (Below X W W0) := B0
  have HF : Hid (∀ W1, Below W0.heap.size W0 W1 → X < W1.heap.size ∧ W1.cell? ⟨X, 0, none⟩ = some (.int .i64 x) ∧ W1.cell? ⟨X, 1, none⟩ = some (.int .i64 y) ∧ W1.cell? ⟨X, 2, none⟩ = some (.slice a L cap)) := fun W1 k => start_fixed hl0 x0 x1 x2 k
  have HN : Hid (X ≤ W0.heap.size) := Nat.le_of_lt hl0
  clear B0 hO
  unfold cw
  go_enter Try.func6, Try.ntmps6
  go_wp2_with fail
  refine C1.mono ?_; rintro e W1 ⟨rfl, k1⟩
  obtain ⟨hl1, y0, y1, y2⟩ := HF.out W1 k1
  have C2 := begin_any x y (.slice a L cap) W1
  have HB1 : Hid (Below X W W1) := bthen HB0.out HN.out k1
  unfold cw tp at C2
  have HL1 : Hid _ := And.intro hl1 y2
  clear C1 k1
  go_wp2_with fail
  refine C2.mono ?_; rintro e W2 ⟨T, A, b, a', S, hb, RT, t0, s0, rfl, tt, bw, st, _⟩
  have H0 : Hid (Ws (fun g => g < W1.heap.size) W W2 X (.slice a L cap) none T S hb 3 t0 s0) := ws_of tt bw (Or.inr ⟨HL1.out.1, rfl⟩) (fun k e => by cases e) HB1.out HL1.out.2
  generalize (fun g => g < W1.heap.size) = P1 at *
  have HS0 : Hid (pres t0.p = []) := st.pr
  clear C2 tt bw st y0 y1 y2 x0 x1 x2 hl1
  go_wp2_with fail
  go_loopw [6] (fun iw wr => ∃ k : Nat, iw = .int .i64 (k : Nat) ∧ k ≤ L ∧ k ≤ 300 ∧ Hid (∃ t s, Ws P1 W wr X (.slice a L cap) none T S hb (3 + 7 * k) t s)) (fun iw _ => 300 - (intOf iw).toNat)
  case atStart => exact ⟨0, rfl, by omega, by omega, t0, s0, H0.out⟩
  case round =>
    obtain ⟨k, rfl, hk, hk3, HR0⟩ := hrel
    obtain ⟨t, s, HR⟩ := HR0.out
    clear H0 HR0
    have xc := HR.xc
    by_cases hlt : k < L
    · by_cases hlt3 : k < 300
      · have hlt' : (k : Int) < (L : Int) := by omega
        have hlt3' : (k : Int) < 300 := by omega
        have hk0 : ¬ ((k : Int) < 0) := by omega
        obtain ⟨lb, off, rfl, hlb, i0, i1, i2, i3, i4, i5, i6⟩ := (HO.out wr HR.bel).at hlt
        have hr := ((HO.out wr HR.bel).1 k hlt)
        have hwi : IntKind.i64.wrap ((k : Int) + 1) = (k : Int) + 1 := by rw [IntKind.wrap_i64]; omega
        have CS := (HR.below (bdrew1 wr)).set (by omega) (Q k).2.1 (Q k).2.2 hr
        unfold vv vl tp at CS
        generalize Q k = q at *
        clear HR
        go_wp2_with fail
        refine wp_tail 13 (by kernel_rfl) (by kernel_rfl) ?_
        simp only [List.take_succ_cons, List.take_zero, List.drop_succ_cons, List.drop_zero]
        repeat still_step
        refine wpStill_nil ?_
        go_wp2_with fail
        refine CS.mono ?_; rintro e W4 ⟨rfl, b4, _⟩
        have H4 : Hid _ := b4
        clear CS b4
        go_wp2_with fail
        go_round
        case rel => exact ⟨k + 1, by go_num, by omega, by omega, _, _, H4.out⟩
        case measure => simp [intOf]; omega
      · have hlt3' : ¬ ((k : Int) < 300) := by omega
        have hlt' : (k : Int) < (L : Int) := by omega
        clear hlt3 hlt
        have CL := HR.list
        unfold tp at CL
        have HR1 : Hid (Ws P1 W wr X (.slice a L cap) none T S hb (3 + 7 * k) t s) := HR
        have hti := HR.ti
        have hll : (wl t.p).length ≤ 131072 := by
          have := lsF_len t.p (t.p.n + t.p.z) 1
          have := hti.le
          have := hti.rt.le
          unfold wl; omega
        have HRi : Hid (Rise t.p 0 (wl t.p)) := wl_rise t.p
        have HTi : Hid (TI t.p) := hti
        clear HR hti
        go_wp2_with fail
        refine CL.mono ?_; rintro e W5 ⟨v5, rfl, row5, k5⟩
        obtain ⟨ad, cp, rfl, hrow⟩ := pr_of row5
        have h5 := HR1.out.news k5
        obtain ⟨P2, hP2⟩ : ∃ P2, (fun g => P1 g ∨ (wr.heap.size ≤ g ∧ g < W5.heap.size)) = P2 := ⟨_, rfl⟩
        rw [hP2] at h5
        have HP2 : Hid (∀ g, wr.heap.size ≤ g → g < W5.heap.size → P2 g) := fun g q1 q2 => by rw [← hP2]; exact .inr ⟨q1, q2⟩
        clear hP2
        have H5 : Hid (Ws P2 W W5 X (.slice a L cap) none T S hb (3 + 7 * k) t s) := h5
        obtain ⟨l, hl⟩ : ∃ l, wl t.p = l := ⟨_, rfl⟩
        rw [hl] at hrow hll HRi row5 ⊢
        clear CL row5 h5 k5 HR1
        by_cases hl0 : l = []
        · subst hl0
          clear hrow
          have HB5 : Hid _ := H5.out.bel
          go_wp2_with fail
          go_loopw [8, 9] (fun ww iw wr' => ww = .int .i64 0 ∧ iw = .int .i64 0 ∧ wr' = W5) (fun _ _ _ => 0)
          case atStart => exact ⟨rfl, rfl, rfl⟩
          case round =>
            obtain ⟨rfl, rfl, rfl⟩ := hrel
            go_wp2_with fail
            go_ret
            first | exact ⟨rfl, HB5.out⟩ | exact ⟨rfl, by rw [HX.out]; exact HB5.out⟩
        · obtain ⟨x0, hx0⟩ := List.exists_mem_of_ne_nil l hl0
          obtain ⟨g, rfl, hg1, hg2, hcell⟩ := hrow x0 hx0
          have HG : Hid (P2 g ∧ g < W5.heap.size) := ⟨HP2.out g hg1 hg2, hg2⟩
          have HCe : Hid (∀ W', Keep P2 W5 W' → ∀ i x, l[i]? = some x → W'.cell? ⟨g, i * 6, none⟩ = some (.int .i64 x.1.1) ∧ W'.cell? ⟨g, i * 6 + 1, none⟩ = some (.int .i64 x.1.2.1) ∧ W'.cell? ⟨g, i * 6 + 2, none⟩ = some (.string x.1.2.2)) := fun W' q i x hi => by
            have e := q.block g hg2 HG.out.1
            obtain ⟨q0, q1, q2, _⟩ := hcell i x hi
            exact ⟨by rw [World.cell?_of_block (w := W5) e]; exact q0, by rw [World.cell?_of_block (w := W5) e]; exact q1, by rw [World.cell?_of_block (w := W5) e]; exact q2⟩
          clear hrow hg1 hg2 hcell hx0 hl0
          go_wp2_with fail
          go_loopw [8, 9] (fun ww iw wr' => ∃ (m i : Nat), ww = .int .i64 (m : Nat) ∧ iw = .int .i64 (i : Nat) ∧ i ≤ l.length ∧ m ≤ t.p.n + t.p.z ∧ Hid (∃ t' : TS, t'.p = t.p ∧ Ws P2 W wr' X (.slice a L cap) none T S hb (3 + 7 * k + i) t' s ∧ Rise t.p m (l.drop i) ∧ Keep P2 W5 wr')) (fun _ iw _ => l.length - (intOf iw).toNat)
          case atStart => exact ⟨0, 0, rfl, rfl, by omega, by omega, t, rfl, H5.out, HRi.out, Keep.refl _ _⟩
          case round =>
            obtain ⟨m, i, rfl, rfl, hi, hm, HR2⟩ := hrel
            obtain ⟨t', etp, hw6, hris, hkk⟩ := HR2.out
            clear HR2 H5
            by_cases hil : i < l.length
            · have hil' : (i : Int) < (l.length : Int) := by omega
              have hi0 : ¬ ((i : Int) < 0) := by omega
              have hwi : IntKind.i64.wrap ((i : Int) + 1) = (i : Int) + 1 := by rw [IntKind.wrap_i64]; omega
              obtain ⟨x, hx⟩ : ∃ x, l[i]? = some x := ⟨l[i], List.getElem?_eq_getElem hil⟩
              have hdr : l.drop i = x :: l.drop (i + 1) := by
                rw [List.drop_eq_getElem_cons hil]
                have := List.getElem?_eq_some_iff.1 hx
                rw [this.2]
              rw [hdr] at hris
              obtain ⟨j, hj1, hj2, hxe, hxv, _, hris2⟩ := hris
              obtain ⟨p1, p2, p3, p4, p5⟩ := plc_prO HTi.out (i := j) (by omega) hj2 hxv
              rw [← hxe] at p1 p2 p3 p4 p5
              obtain ⟨u0, u1, u2⟩ := HCe.out wr hkk i x hx
              have CP := hw6.place (by omega) x.1 p5
              rw [show plc t'.p x.1 = (j : Int) by rw [etp]; exact p1] at CP
              unfold tp vv vl at CP
              have HW6 : Hid _ := hkk
              have HRs : Hid (Rise t.p j (l.drop (i + 1))) := hris2
              have HKd : Hid ((j ≤ t.p.n → x.1.1 = 2 ∧ x.1.2.1 = (j : Int))) := fun q => by rw [hxe, prO_A (by omega) q]; exact ⟨rfl, rfl⟩
              clear hw6 hkk hdr hris2 hxe hxv p1 p2 p3 p4 p5
              go_wp2_with fail
              refine CP.mono ?_; rintro e W6 ⟨rfl, h6, kk6⟩
              have hk6 := HW6.out.trans kk6
              obtain ⟨XX, F, F1, F2⟩ := class_of W6
              have HC : Hid (∃ z, W6.drew = F z) := F2 _ (bdrew1 W6)
              have hSt : ∀ z, Calls Try.prog 17 #[.pointer (some ⟨T, 0, none⟩)] (F z) fun e w'' => e = .returned (.agg #[.int .i64 (t.p.n : Nat), .int .i64 (t'.p.z : Nat), .int .i64 (t'.p.g.f : Nat), .int .i64 t'.hint]) ∧ ∃ y, w'' = F y := fun z => ((h6.below (F1 z)).stats).mono fun e w' hh => by
                rw [← etp]
                exact ⟨hh.1, F2 _ (bthen (F1 z) (F1 z).size hh.2)⟩
              have hPl : ∀ z, Calls Try.prog 21 #[.pointer (some ⟨T, 0, none⟩)] (F z) fun e w'' => e = .returned (.int .i64 ((t.p.n + t.p.z : Nat) : Int)) ∧ ∃ y, w'' = F y := fun z => ((h6.below (F1 z)).places).mono fun e w' hh => by
                rw [← etp]
                exact ⟨hh.1, F2 _ (bthen (F1 z) (F1 z).size hh.2)⟩
              have e0 : ∀ z, (F z).cell? ⟨g, i * 6, none⟩ = some (.int .i64 x.1.1) := fun z => (HCe.out (F z) (hk6.trans (Keep.of (F1 z))) i x hx).1
              have e1 : ∀ z, (F z).cell? ⟨g, i * 6 + 1, none⟩ = some (.int .i64 x.1.2.1) := fun z => (HCe.out (F z) (hk6.trans (Keep.of (F1 z))) i x hx).2.1
              have HNx : Hid (∀ z, ∃ t'' : TS, t''.p = t.p ∧ Ws P2 W (F z) X (.slice a L cap) none T S hb (3 + 7 * k + (i + 1)) t'' s ∧ Rise t.p j (l.drop (i + 1)) ∧ Keep P2 W5 (F z)) := fun z => ⟨_, (by show t'.p = t.p; exact etp), (h6.below (F1 z)).more (by omega), HRs.out, hk6.trans (Keep.of (F1 z))⟩
              have hfs := fldS0
              generalize hNZ : ((t.p.n + t.p.z : Nat) : Int) = NZ at *
              have a1 : decide ((j : Int) ≤ (m : Int)) = false := by simp; omega
              have a1' : decide (j ≤ m) = false := by simp; omega
              have a2 : decide (NZ < (j : Int)) = false := by simp; omega
              clear CP h6 kk6 hk6 F1 F2 HW6 u0 u1 u2 HRs
              go_upto_region 16 with fail
              by_cases hjn : j ≤ t.p.n
              · obtain ⟨b1, b2⟩ := HKd.out hjn
                have a3 : decide ((j : Int) ≤ (t.p.n : Int)) = true := by simp; omega
                have a3' : decide (j ≤ t.p.n) = true := by simp; omega
                have a4 : (x.1.1 == 2) = true := by simp [b1]
                have a5 : (x.1.2.1 == (j : Int)) = true := by simp [b2]
                clear b1 b2 HKd
                haveI : Nonempty XX := HC.out.elim fun z _ => ⟨z⟩
                refine wp_class (F := F) (by kernel_rfl) (by kernel_rfl) HC.out ?_
                repeat (go_big_quiet_step (first | exact hSt _ | exact hPl _))
                refine wpQuiet_nil ?_
                intro _ hw'
                obtain ⟨x9, rfl⟩ := hw'
                have HX5 : Hid _ := HNx.out x9
                go_wp2_with fail
                go_round
                case rel => exact ⟨j, i + 1, by go_num, by go_num, by omega, by omega, HX5.out⟩
                case measure => simp [intOf]; omega
              · have a3 : decide ((j : Int) ≤ (t.p.n : Int)) = false := by simp; omega
                have a3' : decide (j ≤ t.p.n) = false := by simp; omega
                clear HKd
                by_cases b1 : x.1.1 = 2
                · have a4 : (x.1.1 == 2) = true := by simp [b1]
                  by_cases b2 : x.1.2.1 = (j : Int)
                  · have a5 : (x.1.2.1 == (j : Int)) = true := by simp [b2]
                    clear b1 b2
                    haveI : Nonempty XX := HC.out.elim fun z _ => ⟨z⟩
                    refine wp_class (F := F) (by kernel_rfl) (by kernel_rfl) HC.out ?_
                    repeat (go_big_quiet_step (first | exact hSt _ | exact hPl _))
                    refine wpQuiet_nil ?_
                    intro _ hw'
                    obtain ⟨x9, rfl⟩ := hw'
                    have HX5 : Hid _ := HNx.out x9
                    go_wp2_with fail
                    go_round
                    case rel => exact ⟨j, i + 1, by go_num, by go_num, by omega, by omega, HX5.out⟩
                    case measure => simp [intOf]; omega
                  · have a5 : (x.1.2.1 == (j : Int)) = false := by simp [b2]
                    clear b1 b2
                    haveI : Nonempty XX := HC.out.elim fun z _ => ⟨z⟩
                    refine wp_class (F := F) (by kernel_rfl) (by kernel_rfl) HC.out ?_
                    repeat (go_big_quiet_step (first | exact hSt _ | exact hPl _))
                    refine wpQuiet_nil ?_
                    intro _ hw'
                    obtain ⟨x9, rfl⟩ := hw'
                    have HX5 : Hid _ := HNx.out x9
                    go_wp2_with fail
                    go_round
                    case rel => exact ⟨j, i + 1, by go_num, by go_num, by omega, by omega, HX5.out⟩
                    case measure => simp [intOf]; omega
                · have a4 : (x.1.1 == 2) = false := by simp [b1]
                  clear b1
                  haveI : Nonempty XX := HC.out.elim fun z _ => ⟨z⟩
                  refine wp_class (F := F) (by kernel_rfl) (by kernel_rfl) HC.out ?_
                  repeat (go_big_quiet_step (first | exact hSt _ | exact hPl _))
                  refine wpQuiet_nil ?_
                  intro _ hw'
                  obtain ⟨x9, rfl⟩ := hw'
                  have HX5 : Hid _ := HNx.out x9
                  go_wp2_with fail
                  go_round
                  case rel => exact ⟨j, i + 1, by go_num, by go_num, by omega, by omega, HX5.out⟩
                  case measure => simp [intOf]; omega
            · have hil' : ¬ ((i : Int) < (l.length : Int)) := by omega
              have HB6 : Hid _ := hw6.bel
              clear hw6
              go_wp2_with fail
              go_ret
              first | exact ⟨rfl, HB6.out⟩ | exact ⟨rfl, by rw [HX.out]; exact HB6.out⟩
    · have hlt' : ¬ ((k : Int) < (L : Int)) := by omega
      clear hlt
      have CL := HR.list
      unfold tp at CL
      have HR1 : Hid (Ws P1 W wr X (.slice a L cap) none T S hb (3 + 7 * k) t s) := HR
      have hti := HR.ti
      have hll : (wl t.p).length ≤ 131072 := by
        have := lsF_len t.p (t.p.n + t.p.z) 1
        have := hti.le
        have := hti.rt.le
        unfold wl; omega
      have HRi : Hid (Rise t.p 0 (wl t.p)) := wl_rise t.p
      have HTi : Hid (TI t.p) := hti
      clear HR hti
      go_wp2_with fail
      refine CL.mono ?_; rintro e W5 ⟨v5, rfl, row5, k5⟩
      obtain ⟨ad, cp, rfl, hrow⟩ := pr_of row5
      have h5 := HR1.out.news k5
      obtain ⟨P2, hP2⟩ : ∃ P2, (fun g => P1 g ∨ (wr.heap.size ≤ g ∧ g < W5.heap.size)) = P2 := ⟨_, rfl⟩
      rw [hP2] at h5
      have HP2 : Hid (∀ g, wr.heap.size ≤ g → g < W5.heap.size → P2 g) := fun g q1 q2 => by rw [← hP2]; exact .inr ⟨q1, q2⟩
      clear hP2
      have H5 : Hid (Ws P2 W W5 X (.slice a L cap) none T S hb (3 + 7 * k) t s) := h5
      obtain ⟨l, hl⟩ : ∃ l, wl t.p = l := ⟨_, rfl⟩
      rw [hl] at hrow hll HRi row5 ⊢
      clear CL row5 h5 k5 HR1
      by_cases hl0 : l = []
      · subst hl0
        clear hrow
        have HB5 : Hid _ := H5.out.bel
        go_wp2_with fail
        go_loopw [8, 9] (fun ww iw wr' => ww = .int .i64 0 ∧ iw = .int .i64 0 ∧ wr' = W5) (fun _ _ _ => 0)
        case atStart => exact ⟨rfl, rfl, rfl⟩
        case round =>
          obtain ⟨rfl, rfl, rfl⟩ := hrel
          go_wp2_with fail
          go_ret
          first | exact ⟨rfl, HB5.out⟩ | exact ⟨rfl, by rw [HX.out]; exact HB5.out⟩
      · obtain ⟨x0, hx0⟩ := List.exists_mem_of_ne_nil l hl0
        obtain ⟨g, rfl, hg1, hg2, hcell⟩ := hrow x0 hx0
        have HG : Hid (P2 g ∧ g < W5.heap.size) := ⟨HP2.out g hg1 hg2, hg2⟩
        have HCe : Hid (∀ W', Keep P2 W5 W' → ∀ i x, l[i]? = some x → W'.cell? ⟨g, i * 6, none⟩ = some (.int .i64 x.1.1) ∧ W'.cell? ⟨g, i * 6 + 1, none⟩ = some (.int .i64 x.1.2.1) ∧ W'.cell? ⟨g, i * 6 + 2, none⟩ = some (.string x.1.2.2)) := fun W' q i x hi => by
          have e := q.block g hg2 HG.out.1
          obtain ⟨q0, q1, q2, _⟩ := hcell i x hi
          exact ⟨by rw [World.cell?_of_block (w := W5) e]; exact q0, by rw [World.cell?_of_block (w := W5) e]; exact q1, by rw [World.cell?_of_block (w := W5) e]; exact q2⟩
        clear hrow hg1 hg2 hcell hx0 hl0
        go_wp2_with fail
        go_loopw [8, 9] (fun ww iw wr' => ∃ (m i : Nat), ww = .int .i64 (m : Nat) ∧ iw = .int .i64 (i : Nat) ∧ i ≤ l.length ∧ m ≤ t.p.n + t.p.z ∧ Hid (∃ t' : TS, t'.p = t.p ∧ Ws P2 W wr' X (.slice a L cap) none T S hb (3 + 7 * k + i) t' s ∧ Rise t.p m (l.drop i) ∧ Keep P2 W5 wr')) (fun _ iw _ => l.length - (intOf iw).toNat)
        case atStart => exact ⟨0, 0, rfl, rfl, by omega, by omega, t, rfl, H5.out, HRi.out, Keep.refl _ _⟩
        case round =>
          obtain ⟨m, i, rfl, rfl, hi, hm, HR2⟩ := hrel
          obtain ⟨t', etp, hw6, hris, hkk⟩ := HR2.out
          clear HR2 H5
          by_cases hil : i < l.length
          · have hil' : (i : Int) < (l.length : Int) := by omega
            have hi0 : ¬ ((i : Int) < 0) := by omega
            have hwi : IntKind.i64.wrap ((i : Int) + 1) = (i : Int) + 1 := by rw [IntKind.wrap_i64]; omega
            obtain ⟨x, hx⟩ : ∃ x, l[i]? = some x := ⟨l[i], List.getElem?_eq_getElem hil⟩
            have hdr : l.drop i = x :: l.drop (i + 1) := by
              rw [List.drop_eq_getElem_cons hil]
              have := List.getElem?_eq_some_iff.1 hx
              rw [this.2]
            rw [hdr] at hris
            obtain ⟨j, hj1, hj2, hxe, hxv, _, hris2⟩ := hris
            obtain ⟨p1, p2, p3, p4, p5⟩ := plc_prO HTi.out (i := j) (by omega) hj2 hxv
            rw [← hxe] at p1 p2 p3 p4 p5
            obtain ⟨u0, u1, u2⟩ := HCe.out wr hkk i x hx
            have CP := hw6.place (by omega) x.1 p5
            rw [show plc t'.p x.1 = (j : Int) by rw [etp]; exact p1] at CP
            unfold tp vv vl at CP
            have HW6 : Hid _ := hkk
            have HRs : Hid (Rise t.p j (l.drop (i + 1))) := hris2
            have HKd : Hid ((j ≤ t.p.n → x.1.1 = 2 ∧ x.1.2.1 = (j : Int))) := fun q => by rw [hxe, prO_A (by omega) q]; exact ⟨rfl, rfl⟩
            clear hw6 hkk hdr hris2 hxe hxv p1 p2 p3 p4 p5
            go_wp2_with fail
            refine CP.mono ?_; rintro e W6 ⟨rfl, h6, kk6⟩
            have hk6 := HW6.out.trans kk6
            obtain ⟨XX, F, F1, F2⟩ := class_of W6
            have HC : Hid (∃ z, W6.drew = F z) := F2 _ (bdrew1 W6)
            have hSt : ∀ z, Calls Try.prog 17 #[.pointer (some ⟨T, 0, none⟩)] (F z) fun e w'' => e = .returned (.agg #[.int .i64 (t.p.n : Nat), .int .i64 (t'.p.z : Nat), .int .i64 (t'.p.g.f : Nat), .int .i64 t'.hint]) ∧ ∃ y, w'' = F y := fun z => ((h6.below (F1 z)).stats).mono fun e w' hh => by
              rw [← etp]
              exact ⟨hh.1, F2 _ (bthen (F1 z) (F1 z).size hh.2)⟩
            have hPl : ∀ z, Calls Try.prog 21 #[.pointer (some ⟨T, 0, none⟩)] (F z) fun e w'' => e = .returned (.int .i64 ((t.p.n + t.p.z : Nat) : Int)) ∧ ∃ y, w'' = F y := fun z => ((h6.below (F1 z)).places).mono fun e w' hh => by
              rw [← etp]
              exact ⟨hh.1, F2 _ (bthen (F1 z) (F1 z).size hh.2)⟩
            have e0 : ∀ z, (F z).cell? ⟨g, i * 6, none⟩ = some (.int .i64 x.1.1) := fun z => (HCe.out (F z) (hk6.trans (Keep.of (F1 z))) i x hx).1
            have e1 : ∀ z, (F z).cell? ⟨g, i * 6 + 1, none⟩ = some (.int .i64 x.1.2.1) := fun z => (HCe.out (F z) (hk6.trans (Keep.of (F1 z))) i x hx).2.1
            have HNx : Hid (∀ z, ∃ t'' : TS, t''.p = t.p ∧ Ws P2 W (F z) X (.slice a L cap) none T S hb (3 + 7 * k + (i + 1)) t'' s ∧ Rise t.p j (l.drop (i + 1)) ∧ Keep P2 W5 (F z)) := fun z => ⟨_, (by show t'.p = t.p; exact etp), (h6.below (F1 z)).more (by omega), HRs.out, hk6.trans (Keep.of (F1 z))⟩
            have hfs := fldS0
            generalize hNZ : ((t.p.n + t.p.z : Nat) : Int) = NZ at *
            have a1 : decide ((j : Int) ≤ (m : Int)) = false := by simp; omega
            have a1' : decide (j ≤ m) = false := by simp; omega
            have a2 : decide (NZ < (j : Int)) = false := by simp; omega
            clear CP h6 kk6 hk6 F1 F2 HW6 u0 u1 u2 HRs
            go_upto_region 16 with fail
            by_cases hjn : j ≤ t.p.n
            · obtain ⟨b1, b2⟩ := HKd.out hjn
              have a3 : decide ((j : Int) ≤ (t.p.n : Int)) = true := by simp; omega
              have a3' : decide (j ≤ t.p.n) = true := by simp; omega
              have a4 : (x.1.1 == 2) = true := by simp [b1]
              have a5 : (x.1.2.1 == (j : Int)) = true := by simp [b2]
              clear b1 b2 HKd
              haveI : Nonempty XX := HC.out.elim fun z _ => ⟨z⟩
              refine wp_class (F := F) (by kernel_rfl) (by kernel_rfl) HC.out ?_
              repeat (go_big_quiet_step (first | exact hSt _ | exact hPl _))
              refine wpQuiet_nil ?_
              intro _ hw'
              obtain ⟨x9, rfl⟩ := hw'
              have HX5 : Hid _ := HNx.out x9
              go_wp2_with fail
              go_round
              case rel => exact ⟨j, i + 1, by go_num, by go_num, by omega, by omega, HX5.out⟩
              case measure => simp [intOf]; omega
            · have a3 : decide ((j : Int) ≤ (t.p.n : Int)) = false := by simp; omega
              have a3' : decide (j ≤ t.p.n) = false := by simp; omega
              clear HKd
              by_cases b1 : x.1.1 = 2
              · have a4 : (x.1.1 == 2) = true := by simp [b1]
                by_cases b2 : x.1.2.1 = (j : Int)
                · have a5 : (x.1.2.1 == (j : Int)) = true := by simp [b2]
                  clear b1 b2
                  haveI : Nonempty XX := HC.out.elim fun z _ => ⟨z⟩
                  refine wp_class (F := F) (by kernel_rfl) (by kernel_rfl) HC.out ?_
                  repeat (go_big_quiet_step (first | exact hSt _ | exact hPl _))
                  refine wpQuiet_nil ?_
                  intro _ hw'
                  obtain ⟨x9, rfl⟩ := hw'
                  have HX5 : Hid _ := HNx.out x9
                  go_wp2_with fail
                  go_round
                  case rel => exact ⟨j, i + 1, by go_num, by go_num, by omega, by omega, HX5.out⟩
                  case measure => simp [intOf]; omega
                · have a5 : (x.1.2.1 == (j : Int)) = false := by simp [b2]
                  clear b1 b2
                  haveI : Nonempty XX := HC.out.elim fun z _ => ⟨z⟩
                  refine wp_class (F := F) (by kernel_rfl) (by kernel_rfl) HC.out ?_
                  repeat (go_big_quiet_step (first | exact hSt _ | exact hPl _))
                  refine wpQuiet_nil ?_
                  intro _ hw'
                  obtain ⟨x9, rfl⟩ := hw'
                  have HX5 : Hid _ := HNx.out x9
                  go_wp2_with fail
                  go_round
                  case rel => exact ⟨j, i + 1, by go_num, by go_num, by omega, by omega, HX5.out⟩
                  case measure => simp [intOf]; omega
              · have a4 : (x.1.1 == 2) = false := by simp [b1]
                clear b1
                haveI : Nonempty XX := HC.out.elim fun z _ => ⟨z⟩
                refine wp_class (F := F) (by kernel_rfl) (by kernel_rfl) HC.out ?_
                repeat (go_big_quiet_step (first | exact hSt _ | exact hPl _))
                refine wpQuiet_nil ?_
                intro _ hw'
                obtain ⟨x9, rfl⟩ := hw'
                have HX5 : Hid _ := HNx.out x9
                go_wp2_with fail
                go_round
                case rel => exact ⟨j, i + 1, by go_num, by go_num, by omega, by omega, HX5.out⟩
                case measure => simp [intOf]; omega
          · have hil' : ¬ ((i : Int) < (l.length : Int)) := by omega
            have HB6 : Hid _ := hw6.bel
            clear hw6
            go_wp2_with fail
            go_ret
            first | exact ⟨rfl, HB6.out⟩ | exact ⟨rfl, by rw [HX.out]; exact HB6.out⟩
end Go.Proofs.Ythlgeohncpmaaab
