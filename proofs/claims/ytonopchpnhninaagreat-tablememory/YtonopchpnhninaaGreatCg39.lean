/- The walk of TableMemory. The great seat's numbers. -/
import Derived.Test.YtonopchpnhninaaGreatCg38
import Derived.Test.YtonopchpnhninaaGreatCg34
namespace Go.Proofs.YtonopchpnhninaaGreat
open Go.RowKit

set_option maxRecDepth 100000 in
set_option maxHeartbeats 8000000 in
theorem ty_ok (l x y : Int) (a : Option Addr) (L cap : Nat) (hL : L ≤ cap) (W : World) (Q : Nat → Int × V × V × Int) (hO : Ops W.heap.size W a L Q) (h0 : 0 ≤ l) (h1 : l ≤ 400000) (he : nE (H.newSt l) (cN x) (cN y) = 0) :
    Calls Tryz.prog 5 #[cv l x y (.slice a L cap)] W fun e w' => e = .returned (.bool true) ∧ Below W.heap.size W w' := by
  have CB := fun w => begin_ok l (cN x) (cN y) a (min L 300) cap w h0 h1 he
  unfold cv tp at CB
  have HO : Hid (Ops W.heap.size W a (min L 300) Q) := hO.cut (Nat.min_le_left _ _)
  clear h0 h1 he hO
  have CF := fun w => fixed_any w
  have CC := fun w => cut_any l x y a L cap hL w
  unfold cv at CC ⊢
  have R0 := R4.made W (.int .i64 l) (.int .i64 x) (.int .i64 y) (.slice a L cap) 24
  have B0 := b1 W (.cells #[.int .i64 l, .int .i64 x, .int .i64 y, .slice a L cap] 24)
  obtain ⟨W0, hW0⟩ : ∃ W0, W.alloc (.cells #[.int .i64 l, .int .i64 x, .int .i64 y, .slice a L cap] 24) = W0 := ⟨_, rfl⟩
  rw [hW0] at R0 B0
  have HR0 : Hid (R4 W0 W.heap.size (.int .i64 l) (.int .i64 x) (.int .i64 y) (.slice a L cap)) := R0
  have HB0 : Hid (Below W.heap.size W W0) := B0
  clear R0 B0
  generalize hX : W.heap.size = X at *
  have HX : Hid (W.heap.size = X) := hX
  go_enter Tryz.func5, Tryz.ntmps5
  go_wp2_with fail
  refine (CF _).mono ?_; rintro e w1 ⟨rfl, hb1⟩
  have R1 := HR0.out.below hb1
  have HB1 : Hid (Below X W w1) := bthen HB0.out (Nat.le_of_lt HR0.out.lt) hb1
  have HR1 : Hid (R4 w1 X (.int .i64 l) (.int .i64 x) (.int .i64 y) (.slice a L cap)) := R1
  have c0 := R1.c0
  have c1 := R1.c1
  have c2 := R1.c2
  have c3 := R1.c3
  clear hb1 R1 HR0 HB0 CF hW0
  go_wp2_with fail
  refine (CC _).mono ?_; rintro e w2 ⟨rfl, hb2⟩
  have R2 := HR1.out.below hb2
  have R3 := R2.set (.int .i64 l) (.int .i64 (cN x)) (.int .i64 (cN y)) (.slice a (min L 300) cap)
  have K3 := ((Keep.refl (fun g => g < X) w2).set4 (N := X) (Nat.lt_irrefl X) (.int .i64 l) (.int .i64 (cN x)) (.int .i64 (cN y)) (.slice a (min L 300) cap)).below (N := X) (Nat.le_of_lt R2.lt) (fun g q => q)
  obtain ⟨W3, hW3⟩ : ∃ W3, set4 w2 X (.int .i64 l) (.int .i64 (cN x)) (.int .i64 (cN y)) (.slice a (min L 300) cap) = W3 := ⟨_, rfl⟩
  rw [hW3] at R3 K3
  unfold set4 at hW3
  have HB3 : Hid (Below X W W3) := (bthen HB1.out (Nat.le_of_lt HR1.out.lt) hb2).trans K3
  have HR3 : Hid (R4 W3 X (.int .i64 l) (.int .i64 (cN x)) (.int .i64 (cN y)) (.slice a (min L 300) cap)) := R3
  have rc0 := R2.c0
  have rc1 := R2.c1
  have rc2 := R2.c2
  have rc3 := R2.c3
  have rcf := R2.fz
  have t0 := R3.c0
  have t1 := R3.c1
  have t2 := R3.c2
  have t3 := R3.c3
  clear hb2 R2 R3 K3 HB1 HR1 CC c0 c1 c2 c3
  go_wp2_with fail
  refine (CB _).mono ?_; rintro e w4 ⟨M, T, A, b, a', S, hb, RT, RA, P, ka, va, ca, G, n', z, t, rfl, bg, ok, es1, es2⟩
  have hlt3 := HR3.out.lt
  obtain ⟨Q0, hQ0⟩ : ∃ Q0, (fun g => g < W3.heap.size) = Q0 := ⟨_, rfl⟩
  have HX3 : Hid (Q0 X ∧ (∀ g, g < X → Q0 g) ∧ ∀ g, Q0 g → g < W3.heap.size) := by rw [← hQ0]; exact ⟨hlt3, fun g q => Nat.lt_trans q hlt3, fun g q => q⟩
  have HM0 : Hid (Bz Q0 w4 T S hb RT G 3 t (nS (H.newSt l) (cN x) (cN y)) t (nS (H.newSt l) (cN x) (cN y)) ∧ Keep Q0 W3 w4) := by rw [← hQ0]; exact ⟨bg.bz, Keep.of bg.bel⟩
  clear hQ0
  obtain ⟨L', hL'⟩ : ∃ L', min L 300 = L' := ⟨_, rfl⟩
  have hL3 : L' ≤ 300 := by omega
  have hLc : L' ≤ cap := by omega
  rw [hL'] at HO HR3
  have HXl : Hid (X < W3.heap.size) := hlt3
  have HC : Hid (∀ w, Keep Q0 W3 w → w.cell? ⟨X, 3, none⟩ = some (.slice a L' cap) ∧ Below X W w) := fun w kk =>
    ⟨(HR3.out.kept kk HX3.out.1).c3, HB3.out.trans (kk.below (Nat.le_of_lt HXl.out) (fun g hg => HX3.out.2.1 g hg))⟩
  clear bg ok hlt3 CB HR3 HB3 rc0 rc1 rc2 rc3 rcf t0 t1 t2 t3 hW3 es1 es2
  go_wp2_with fail
  go_loopw [7] (fun iw wr => ∃ k : Nat, iw = .int .i64 (k : Nat) ∧ k ≤ L' ∧ Hid (∃ t s, Bz Q0 wr T S hb RT G (3 + 16 * k) t s t s ∧ Keep Q0 W3 wr)) (fun iw _ => L' - (intOf iw).toNat)
  case atStart => exact ⟨0, rfl, by omega, ⟨_, _, HM0.out⟩⟩
  case round =>
    obtain ⟨k, rfl, hk, HG⟩ := hrel
    obtain ⟨t1, s1, hM, hK⟩ := HG.out
    clear HG HM0
    obtain ⟨xc, xb⟩ := HC.out wr hK
    have HM : Hid (Bz Q0 wr T S hb RT G (3 + 16 * k) t1 s1 t1 s1 ∧ Keep Q0 W3 wr) := ⟨hM, hK⟩
    by_cases hlt : k < L'
    · have hlt' : (k : Int) < (L' : Int) := by omega
      have hk0 : ¬ ((k : Int) < 0) := by omega
      obtain ⟨lb, off, ha, hlb, o0, o1, o2, o3, o4, o5, o6, o7⟩ := (HO.out.below xb).at hlt
      subst ha
      have HRk : Hid (Rng (Q k).2.1) := (HO.out.1 k hlt).1
      have HOp : Hid (∀ w, Keep Q0 W3 w → w.cell? ⟨X, 3, none⟩ = some (.slice (some ⟨lb, off, none⟩) L' cap) ∧ w.cell? ⟨lb, off + k * 8 + 1, none⟩ = some (.int .i64 (Q k).2.1.1) ∧ w.cell? ⟨lb, off + k * 8 + 2, none⟩ = some (.int .i64 (Q k).2.1.2.1) ∧ w.cell? ⟨lb, off + k * 8 + 3, none⟩ = some (.string (Q k).2.1.2.2) ∧ w.cell? ⟨lb, off + k * 8 + 4, none⟩ = some (.int .i64 (Q k).2.2.1.1) ∧ w.cell? ⟨lb, off + k * 8 + 5, none⟩ = some (.int .i64 (Q k).2.2.1.2.1) ∧ w.cell? ⟨lb, off + k * 8 + 6, none⟩ = some (.string (Q k).2.2.1.2.2)) := fun w kk => by
        obtain ⟨lb', off', ha', _, p0, p1, p2, p3, p4, p5, p6, p7⟩ := (HO.out.below (HC.out w kk).2).at hlt
        obtain ⟨rfl, rfl⟩ : lb = lb' ∧ off = off' := by simpa using ha'
        exact ⟨(HC.out w kk).1, p1, p2, p3, p4, p5, p6⟩
      generalize (Q k).2.1 = kk at *
      generalize (Q k).2.2.1 = v0 at *
      have CS := (hM.below (bdrew1 wr)).set (by omega) kk v0 HRk.out
      unfold vv vl tp at CS
      clear hM hK xb o0 o7
      go_wp2_with fail
      refine wp_tail 13 (by kernel_rfl) (by kernel_rfl) ?_
      simp only [List.take_succ_cons, List.take_zero, List.drop_succ_cons, List.drop_zero]
      repeat still_step
      refine wpStill_nil ?_
      go_wp2_with fail
      refine CS.mono ?_; rintro e w5 ⟨rfl, h5, k5⟩
      have HM5 : Hid (Bz Q0 w5 T S hb RT G (3 + 16 * k + 7) (tset t1 s1 kk v0).1 (tset t1 s1 kk v0).2.1 t1 s1 ∧ Keep Q0 W3 w5) := ⟨h5, (HM.out.2.trans (Keep.of (bdrew1 wr))).trans k5⟩
      obtain ⟨xc, o1, o2, o3, o4, o5, o6⟩ := HOp.out w5 HM5.out.2
      have CS := (h5.below (bdrew1 w5)).rset (by omega) kk v0 HRk.out
      unfold vv vl tp at CS
      clear h5 k5
      go_wp2_with fail
      refine wp_tail 13 (by kernel_rfl) (by kernel_rfl) ?_
      simp only [List.take_succ_cons, List.take_zero, List.drop_succ_cons, List.drop_zero]
      repeat still_step
      refine wpStill_nil ?_
      go_wp2_with fail
      refine CS.mono ?_; rintro e w6 ⟨rfl, h6, k6⟩
      obtain ⟨r, hr⟩ : ∃ r, tset t1 s1 kk v0 = r := ⟨_, rfl⟩
      rw [hr] at h6
      have HM6 : Hid (Bz Q0 w6 T S hb RT G (3 + 16 * k + 7 + 7) r.1 r.2.1 r.1 r.2.1 ∧ Keep Q0 W3 w6) := ⟨h6, (HM5.out.2.trans (Keep.of (bdrew1 w5))).trans k6⟩
      clear hr h6 k6 CS HM5 HM xc o1 o2 o3 o4 o5 o6
      generalize r.2.1 = s2 at *
      generalize r.1 = t2 at *
      by_cases h7 : k % 7 = 0
      · have htm : ((k : Int) % 7 == 0) = true := by
          have : (k : Int) % 7 = 0 := by omega
          simpa using this
        have CD := HM6.out.1.dump
        have hn2 := HM6.out.1.ti.1.le
        have hz2 := HM6.out.1.ti.1.rt.le
        unfold tp at CD
        clear h7
        go_wp2_with fail
        refine CD.mono ?_; rintro e w7 ⟨dv, dg, dc, rfl, hd⟩
        obtain ⟨av, cv, rfl⟩ := hd.lv.form
        have HNe : Hid (0 < t2.p.n → ∃ g, av = some ⟨g, 0, none⟩) := fun q => by
          obtain ⟨g0, c0, hv, _⟩ := hd.lv.at q
          exact ⟨g0, by simpa using (by simpa using hv : av = some ⟨g0, 0, none⟩ ∧ cv = c0).1⟩
        have hws := HM6.out.1.ws HM6.out.2 (fun g q e => by have h1 := HX3.out.2.2 g e; have h2 := HM6.out.2.size; omega) hd
        obtain ⟨Q1, hQ1⟩ : ∃ Q1, (fun g => Q0 g ∨ (w6.heap.size ≤ g ∧ g < w7.heap.size)) = Q1 := ⟨_, rfl⟩
        have HQ1 : Hid (∀ g, Q0 g → Q1 g) := fun g q => by rw [← hQ1]; exact .inl q
        rw [hQ1] at hws
        have HW7 : Hid (Ws Q0 Q1 W3 w7 T S hb RT G (3 + 16 * k + 7 + 7) t2 s2 av t2.p.n dg t2.p.z) := hws
        clear CD hd hws hQ1 HM6
        have HCI : Hid (∀ w, Calls Tryz.prog 31 #[.string ⟨#[33]⟩] w fun e w' => e = .returned (.agg #[.int .i64 3, .int .i64 0, .string ⟨#[33]⟩]) ∧ Below w.heap.size w w') := fun w => mkS _ w
        go_wp2_with fail
        go_loopw [10] (fun iw wr => ∃ i : Nat, iw = .int .i64 (i : Nat) ∧ i ≤ t2.p.n ∧ Hid (Ws Q0 Q1 W3 wr T S hb RT G (3 + 16 * k + 7 + 7) t2 s2 av t2.p.n dg t2.p.z)) (fun iw _ => t2.p.n - (intOf iw).toNat)
        case atStart => exact ⟨0, rfl, by omega, HW7⟩
        case round =>
          obtain ⟨i, rfl, hi, HR1⟩ := hrel
          clear HW7
          by_cases hin : i < t2.p.n
          · have hin' : (i : Int) < (t2.p.n : Int) := by omega
            have hi0 : ¬ ((i : Int) < 0) := by omega
            obtain ⟨g, rfl⟩ := HNe.out (by omega)
            have CI := HCI.out wr
            go_wp2_with fail
            refine CI.mono ?_; rintro e w8 ⟨rfl, hb8⟩
            have h8 := HR1.out.below hb8
            obtain ⟨wt, qq⟩ := h8.ws g rfl
            obtain ⟨x0, y0⟩ := wt.c (i * 3) (by omega)
            obtain ⟨x1, y1⟩ := wt.c (i * 3 + 1) (by omega)
            obtain ⟨x2, y2⟩ := wt.c (i * 3 + 2) (by omega)
            have yf := wt.f
            have s8 := h8.set3 qq i (3, 0, ⟨#[33]⟩)
            obtain ⟨w9, hw9⟩ : ∃ w9, set3i w8 g i (3, 0, ⟨#[33]⟩) = w9 := ⟨_, rfl⟩
            rw [hw9] at s8
            have HS9 : Hid (Ws Q0 Q1 W3 w9 T S hb RT G (3 + 16 * k + 7 + 7) t2 s2 (some ⟨g, 0, none⟩) t2.p.n dg t2.p.z) := s8
            unfold set3i at hw9
            clear CI hb8 h8 wt qq s8 HR1
            go_wp2_with fail
            go_round
            case rel => exact ⟨i + 1, by go_num, by omega, HS9⟩
            case measure => simp [intOf]; omega
          · have hin' : ¬ (i : Int) < (t2.p.n : Int) := by omega
            obtain ⟨wo, hwo⟩ : ∃ wo, wo = wr := ⟨_, rfl⟩
            rw [← hwo] at HR1 ⊢
            clear hwo
            go_wp2_with fail
            go_loopw [11] (fun iw wr => ∃ i : Nat, iw = .int .i64 (i : Nat) ∧ i ≤ t2.p.z ∧ Hid (Ws Q0 Q1 W3 wr T S hb RT G (3 + 16 * k + 7 + 7) t2 s2 av t2.p.n dg t2.p.z)) (fun iw _ => t2.p.z - (intOf iw).toNat)
            case atStart => exact ⟨0, rfl, by omega, HR1⟩
            case round =>
              obtain ⟨j, rfl, hj, HR2⟩ := hrel
              clear HR1
              by_cases hjz : j < t2.p.z
              · have hjz' : (j : Int) < (t2.p.z : Int) := by omega
                have hj0 : ¬ ((j : Int) < 0) := by omega
                have CI := HCI.out wr
                go_wp2_with fail
                refine CI.mono ?_; rintro e w8 ⟨rfl, hb8⟩
                have h8 := HR2.out.below hb8
                obtain ⟨wt, qq⟩ := h8.wn
                obtain ⟨x0, y0⟩ := wt.c (j * 7) (by omega)
                obtain ⟨x1, y1⟩ := wt.c (j * 7 + 1) (by omega)
                obtain ⟨x2, y2⟩ := wt.c (j * 7 + 2) (by omega)
                obtain ⟨x3, y3⟩ := wt.c (j * 7 + 3) (by omega)
                obtain ⟨x4, y4⟩ := wt.c (j * 7 + 4) (by omega)
                obtain ⟨x5, y5⟩ := wt.c (j * 7 + 5) (by omega)
                obtain ⟨x6, y6⟩ := wt.c (j * 7 + 6) (by omega)
                have yf := wt.f
                have s8 := h8.set7 qq j (3, 0, ⟨#[33]⟩) nil 5
                obtain ⟨w9, hw9⟩ : ∃ w9, set7i w8 dg j (3, 0, ⟨#[33]⟩) nil 5 = w9 := ⟨_, rfl⟩
                rw [hw9] at s8
                have HS9 : Hid (Ws Q0 Q1 W3 w9 T S hb RT G (3 + 16 * k + 7 + 7) t2 s2 av t2.p.n dg t2.p.z) := s8
                unfold set7i nil at hw9
                clear CI hb8 h8 wt qq s8 HR2
                go_wp2_with fail
                go_round
                case rel => exact ⟨j + 1, by go_num, by omega, HS9⟩
                case measure => simp [intOf]; omega
              · have hjz' : ¬ (j : Int) < (t2.p.z : Int) := by omega
                have HR3 : Hid (∃ t s, Bz Q0 wr T S hb RT G (3 + 16 * (k + 1)) t s t s ∧ Keep Q0 W3 wr) := ⟨t2, s2, (HR2.out.bz.sub HQ1.out).more (by omega), HR2.out.kp⟩
                go_wp2_with fail
                go_round
                case rel => exact ⟨k + 1, by go_num, by omega, HR3⟩
                case measure => simp [intOf]; omega
      · have htm : ((k : Int) % 7 == 0) = false := by
          have : ¬ (k : Int) % 7 = 0 := by omega
          simpa using this
        have HR3 : Hid (∃ t s, Bz Q0 w6 T S hb RT G (3 + 16 * (k + 1)) t s t s ∧ Keep Q0 W3 w6) := ⟨t2, s2, HM6.out.1.more (by omega), HM6.out.2⟩
        clear h7
        go_wp2_with fail
        go_round
        case rel => exact ⟨k + 1, by go_num, by omega, HR3⟩
        case measure => simp [intOf]; omega
    · have hle : ¬ (k : Int) < (L' : Int) := by omega
      have CD := hM.dumps rfl
      have HBf : Hid (∀ w, Below wr.heap.size wr w → Below X W w) := fun w hw => (HC.out w (HM.out.2.trans (Keep.of hw))).2
      unfold tp at CD
      clear hM hK xb
      go_wp2_with fail
      refine CD.mono ?_; rintro e w5 ⟨rfl, hb5⟩
      have HBl : Hid (Below X W w5) := HBf.out w5 hb5
      clear hb5 CD
      go_wp2_with fail
      go_ret
      exact ⟨rfl, HBl.out⟩
end Go.Proofs.YtonopchpnhninaaGreat
