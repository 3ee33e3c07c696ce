/- The walk of TableReads. The great seat's numbers. -/
import Derived.Test.YtonopchpnhninaaGreatCg33
import Derived.Test.YtonopchpnhninaaGreatCg34
namespace Go.Proofs.YtonopchpnhninaaGreat
open Go.RowKit

set_option maxRecDepth 100000 in
set_option maxHeartbeats 8000000 in
theorem tr_ok (l x y : Int) (a : Option Addr) (L cap : Nat) (hL : L ≤ cap) (kq : V) (W : World) (Q : Nat → Int × V × V × Int) (hO : Ops W.heap.size W a L Q) (hq : Rng kq) (h0 : 0 ≤ l) (h1 : l ≤ 400000) (he : nE (H.newSt l) (cN x) (cN y) = 0) :
    Calls Tryz.prog 4 #[cv l x y (.slice a L cap), vv kq] W fun e w' => e = .returned (.bool true) ∧ Below W.heap.size W w' := by
  have CB := fun w => begin_ok l (cN x) (cN y) a (min L 300) cap w h0 h1 he
  unfold cv tp at CB
  have HO : Hid (Ops W.heap.size W a (min L 300) Q) := hO.cut (Nat.min_le_left _ _)
  clear h0 h1 he hO
  have CF := fun w => fixed_any w
  have CC := fun w => cut_any l x y a L cap hL w
  unfold cv at CC ⊢
  unfold vv vl
  have R0 := (R4.made W (.int .i64 l) (.int .i64 x) (.int .i64 y) (.slice a L cap) 24).below (b1 _ (.cells #[.int .i64 kq.1, .int .i64 kq.2.1, .string kq.2.2] 35))
  have K0 := Bx.made (W.alloc (.cells #[.int .i64 l, .int .i64 x, .int .i64 y, .slice a L cap] 24)) kq
  rw [show (W.alloc (.cells #[.int .i64 l, .int .i64 x, .int .i64 y, .slice a L cap] 24)).heap.size = W.heap.size + 1 by simp] at K0
  have B0 := b2 W (.cells #[.int .i64 l, .int .i64 x, .int .i64 y, .slice a L cap] 24) (.cells #[.int .i64 kq.1, .int .i64 kq.2.1, .string kq.2.2] 35)
  unfold vb at K0
  obtain ⟨W0, hW0⟩ : ∃ W0, (W.alloc (.cells #[.int .i64 l, .int .i64 x, .int .i64 y, .slice a L cap] 24)).alloc (.cells #[.int .i64 kq.1, .int .i64 kq.2.1, .string kq.2.2] 35) = W0 := ⟨_, rfl⟩
  rw [hW0] at R0 B0 K0
  have HK0 : Hid (Bx W0 (W.heap.size + 1) kq) := K0
  have HR0 : Hid (R4 W0 W.heap.size (.int .i64 l) (.int .i64 x) (.int .i64 y) (.slice a L cap)) := R0
  have HB0 : Hid (Below W.heap.size W W0) := B0
  clear R0 B0 K0
  generalize hX : W.heap.size = X at *
  have HX : Hid (W.heap.size = X) := hX
  have hX2 : (W.alloc (.cells #[.int .i64 l, .int .i64 x, .int .i64 y, .slice a L cap] 24)).heap.size = X + 1 := by rw [← hX]; simp
  go_enter Tryz.func4, Tryz.ntmps4
  go_wp2_with fail
  refine (CF _).mono ?_; rintro e w1 ⟨rfl, hb1⟩
  have R1 := HR0.out.below hb1
  have HB1 : Hid (Below X W w1) := bthen HB0.out (Nat.le_of_lt HR0.out.lt) hb1
  have HR1 : Hid (R4 w1 X (.int .i64 l) (.int .i64 x) (.int .i64 y) (.slice a L cap)) := R1
  have HK1 : Hid (Bx w1 (X + 1) kq) := HK0.out.below hb1
  have c0 := R1.c0
  have c1 := R1.c1
  have c2 := R1.c2
  have c3 := R1.c3
  clear hb1 R1 HR0 HB0 CF hW0 HK0 hX2
  go_wp2_with fail
  refine (CC _).mono ?_; rintro e w2 ⟨rfl, hb2⟩
  have R2 := HR1.out.below hb2
  have R3 := R2.set (.int .i64 l) (.int .i64 (cN x)) (.int .i64 (cN y)) (.slice a (min L 300) cap)
  have KX := (Keep.refl (fun g => g ≠ X) w2).set4 (N := X) (fun q => q rfl) (.int .i64 l) (.int .i64 (cN x)) (.int .i64 (cN y)) (.slice a (min L 300) cap)
  have K3 := ((Keep.refl (fun g => g < X) w2).set4 (N := X) (Nat.lt_irrefl X) (.int .i64 l) (.int .i64 (cN x)) (.int .i64 (cN y)) (.slice a (min L 300) cap)).below (N := X) (Nat.le_of_lt R2.lt) (fun g q => q)
  obtain ⟨W3, hW3⟩ : ∃ W3, set4 w2 X (.int .i64 l) (.int .i64 (cN x)) (.int .i64 (cN y)) (.slice a (min L 300) cap) = W3 := ⟨_, rfl⟩
  rw [hW3] at R3 K3 KX
  unfold set4 at hW3
  have HB3 : Hid (Below X W W3) := (bthen HB1.out (Nat.le_of_lt HR1.out.lt) hb2).trans K3
  have HR3 : Hid (R4 W3 X (.int .i64 l) (.int .i64 (cN x)) (.int .i64 (cN y)) (.slice a (min L 300) cap)) := R3
  have HK3 : Hid (Bx W3 (X + 1) kq) := (HK1.out.below hb2).kept (No := fun g => g ≠ X) KX (by show X + 1 ≠ X; omega)
  have rc0 := R2.c0
  have rc1 := R2.c1
  have rc2 := R2.c2
  have rc3 := R2.c3
  have rcf := R2.fz
  have t0 := R3.c0
  have t1 := R3.c1
  have t2 := R3.c2
  have t3 := R3.c3
  clear hb2 R2 R3 K3 HB1 HR1 CC c0 c1 c2 c3 KX HK1
  go_wp2_with fail
  refine (CB _).mono ?_; rintro e w4 ⟨M, T, A, b, a', S, hb, RT, RA, P, ka, va, ca, G, n', z, t, rfl, bg, ok, es1, es2⟩
  have hlt3 := HR3.out.lt
  have HQl : Hid (∀ g, g < W3.heap.size → (fun g => g < W3.heap.size) g) := fun g q => q
  obtain ⟨Q0, hQ0⟩ : ∃ Q0, (fun g => g < W3.heap.size) = Q0 := ⟨_, rfl⟩
  have HX3 : Hid (Q0 X ∧ Q0 (X + 1) ∧ (∀ g, g < X → Q0 g)) := by rw [← hQ0]; exact ⟨hlt3, HK3.out.lt, fun g q => Nat.lt_trans q hlt3⟩
  have HM0 : Hid (Bz Q0 w4 T S hb RT G 3 t (nS (H.newSt l) (cN x) (cN y)) t (nS (H.newSt l) (cN x) (cN y)) ∧ Keep Q0 W3 w4) := by rw [← hQ0]; exact ⟨bg.bz, Keep.of bg.bel⟩
  clear HQl hQ0
  obtain ⟨L', hL'⟩ : ∃ L', min L 300 = L' := ⟨_, rfl⟩
  have hL3 : L' ≤ 300 := by omega
  have hLc : L' ≤ cap := by omega
  rw [hL'] at HO HR3
  have HXl : Hid (X < W3.heap.size) := hlt3
  have HC : Hid (∀ w, Keep Q0 W3 w → w.cell? ⟨X, 3, none⟩ = some (.slice a L' cap) ∧ Bx w (X + 1) kq ∧ Below X W w) := fun w kk =>
    ⟨(HR3.out.kept kk HX3.out.1).c3, HK3.out.kept kk HX3.out.2.1, HB3.out.trans (kk.below (Nat.le_of_lt HXl.out) (fun g hg => HX3.out.2.2 g hg))⟩
  clear bg ok hlt3 CB HR3 HB3 HK3 rc0 rc1 rc2 rc3 rcf t0 t1 t2 t3 hW3 es1 es2
  go_wp2_with fail
  go_loopw [9] (fun iw wr => ∃ k : Nat, iw = .int .i64 (k : Nat) ∧ k ≤ L' ∧ Hid (∃ t s u, Bz Q0 wr T S hb RT G (3 + 16 * k) t s u s ∧ Eqv t u ∧ Keep Q0 W3 wr)) (fun iw _ => L' - (intOf iw).toNat)
  case atStart => exact ⟨0, rfl, by omega, ⟨_, _, _, HM0.out.1, Eqv.refl _, HM0.out.2⟩⟩
  case round =>
    obtain ⟨k, rfl, hk, HG⟩ := hrel
    obtain ⟨t1, s1, u1, hM, hE, hK⟩ := HG.out
    clear HG HM0
    obtain ⟨xc, xk, xb⟩ := HC.out wr hK
    have HM : Hid (Bz Q0 wr T S hb RT G (3 + 16 * k) t1 s1 u1 s1 ∧ Eqv t1 u1 ∧ Keep Q0 W3 wr) := ⟨hM, hE, hK⟩
    by_cases hlt : k < L'
    · have hlt' : (k : Int) < (L' : Int) := by omega
      have hk0 : ¬ ((k : Int) < 0) := by omega
      obtain ⟨lb, off, ha, hlb, o0, o1, o2, o3, o4, o5, o6, o7⟩ := (HO.out.below xb).at hlt
      subst ha
      have HRk : Hid (Rng (Q k).2.1) := (HO.out.1 k hlt).1
      have HOp : Hid (∀ w, Keep Q0 W3 w → w.cell? ⟨X, 3, none⟩ = some (.slice (some ⟨lb, off, none⟩) L' cap) ∧ w.cell? ⟨lb, off + k * 8 + 1, none⟩ = some (.int .i64 (Q k).2.1.1) ∧ w.cell? ⟨lb, off + k * 8 + 2, none⟩ = some (.int .i64 (Q k).2.1.2.1) ∧ w.cell? ⟨lb, off + k * 8 + 3, none⟩ = some (.string (Q k).2.1.2.2) ∧ w.cell? ⟨lb, off + k * 8 + 4, none⟩ = some (.int .i64 (Q k).2.2.1.1) ∧ w.cell? ⟨lb, off + k * 8 + 5, none⟩ = some (.int .i64 (Q k).2.2.1.2.1) ∧ w.cell? ⟨lb, off + k * 8 + 6, none⟩ = some (.string (Q k).2.2.1.2.2)) := fun w kk => by
        obtain ⟨lb', off', ha', _, p0, p1, p2, p3, p4, p5, p6, p7⟩ := (HO.out.below (HC.out w kk).2.2).at hlt
        obtain ⟨rfl, rfl⟩ : lb = lb' ∧ off = off' := by simpa using ha'
        exact ⟨(HC.out w kk).1, p1, p2, p3, p4, p5, p6⟩
      generalize (Q k).2.1 = kk at *
      generalize (Q k).2.2.1 = v0 at *
      have CS := (hM.below (bdrew1 wr)).set (by omega) kk v0 HRk.out
      unfold vv vl tp at CS
      clear hM hE hK xk xb o0 o7
      go_wp2_with fail
      refine wp_tail 13 (by kernel_rfl) (by kernel_rfl) ?_
      simp only [List.take_succ_cons, List.take_zero, List.drop_succ_cons, List.drop_zero]
      repeat still_step
      refine wpStill_nil ?_
      go_wp2_with fail
      refine CS.mono ?_; rintro e w5 ⟨rfl, h5, k5⟩
      have HM5 : Hid (Bz Q0 w5 T S hb RT G (3 + 16 * k + 7) (tset t1 s1 kk v0).1 (tset t1 s1 kk v0).2.1 u1 s1 ∧ Keep Q0 W3 w5) := ⟨h5, (HM.out.2.2.trans (Keep.of (bdrew1 wr))).trans k5⟩
      obtain ⟨xc, o1, o2, o3, o4, o5, o6⟩ := HOp.out w5 HM5.out.2
      have CS := (h5.below (bdrew1 w5)).rset (by omega) kk v0 HRk.out
      unfold vv vl tp at CS
      clear h5 k5
      go_wp2_with fail
      refine wp_tail 13 (by kernel_rfl) (by kernel_rfl) ?_
      simp only [List.take_succ_cons, List.take_zero, List.drop_succ_cons, List.drop_zero]
      repeat still_step
      refine wpStill_nil ?_
      go_wp2_with fail
      refine CS.mono ?_; rintro e w6 ⟨rfl, h6, k6⟩
      obtain ⟨r, hr⟩ : ∃ r, tset t1 s1 kk v0 = r := ⟨_, rfl⟩
      obtain ⟨r', hr'⟩ : ∃ r', tset u1 s1 kk v0 = r' := ⟨_, rfl⟩
      have hEq := HM.out.2.1.set s1 kk v0
      rw [hr, hr'] at hEq
      rw [hr, hr'] at h6
      have HM6 : Hid (Bz Q0 w6 T S hb RT G (3 + 16 * k + 7 + 7) r.1 r.2.1 r'.1 r.2.1 ∧ Keep Q0 W3 w6) := ⟨by rw [show r.2.1 = r'.2.1 by rw [hEq.2]] at h6 ⊢; exact h6, (HM5.out.2.trans (Keep.of (bdrew1 w5))).trans k6⟩
      have HE6 : Hid (Eqv r.1 r'.1) := hEq.1
      clear hr hr' hEq h6 k6 CS HM5 HM xc o1 o2 o3 o4 o5 o6
      generalize r.2.1 = s2 at *
      generalize r'.1 = u2 at *
      generalize r.1 = t2 at *
      obtain ⟨xc, o1, o2, o3, o4, o5, o6⟩ := HOp.out w6 HM6.out.2
      have CP := HM6.out.1.probes
      have CG := HM6.out.1.get (by omega) kk HRk.out
      have HPr : Hid (0 ≤ t2.pr ∧ t2.pr ≤ ((3 + 16 * k + 7 + 7 : Nat) : Int) * 65536) := HM6.out.1.pr
      unfold vv vl tp at CG
      unfold tp at CP
      go_wp2_with fail
      refine CP.mono ?_; rintro e w7 ⟨rfl, hw7⟩; rw [hw7]; clear hw7 CP
      go_wp2_with fail
      refine CG.mono ?_; rintro e w8 ⟨rfl, h8, k8⟩
      have HM8 : Hid (Bz Q0 w8 T S hb RT G (3 + 16 * k + 7 + 7 + 1) { t2 with pr := t2.pr + (prd t2.p kk : Nat) } s2 u2 s2 ∧ Keep Q0 W3 w8) := ⟨h8, HM6.out.2.trans k8⟩
      clear CG h8 k8 HM6 xc o1 o2 o3 o4 o5 o6
      obtain ⟨xc, o1, o2, o3, o4, o5, o6⟩ := HOp.out w8 HM8.out.2
      obtain ⟨P8, cP, CFA⟩ := HM8.out.1.part
      have CF := CFA kk HRk.out w8.drew (bdrew1 w8)
      rw [← HE6.out.p] at CF
      generalize fi (fnd t2.p.z t2.p.g kk).1 = ff at *
      clear CFA o4 o5 o6
      go_upto_region 14 with fail
      go_cut [11, 12] from 78 to 91 (fun aw nw wx => aw = .int .i64 ff ∧ nw = .int .i64 ((fnd t2.p.z t2.p.g kk).2 : Nat) ∧ Hid (Below w8.heap.size w8 wx))
      case first =>
        go_region_with (go_at_call 28; refine CF.mono ?_; rintro e w9 ⟨rfl, hb9⟩; have HB9 : Hid (Below w8.heap.size w8 w9) := bthen (bdrew1 w8) (Nat.le_refl _) hb9; clear hb9)
        all_goals
          go_wp2_with fail
          go_meet
          exact ⟨rfl, rfl, HB9⟩
      case rest =>
        obtain ⟨rfl, rfl, HB9⟩ := hcut
        obtain ⟨wx, hwx⟩ : ∃ wx, wx = wc := ⟨_, rfl⟩
        rw [← hwx] at HB9 ⊢
        clear hwx CF cP xc o1 o2 o3
        have HM9 : Hid (Bz Q0 wx T S hb RT G (3 + 16 * k + 7 + 7 + 1) { t2 with pr := t2.pr + (prd t2.p kk : Nat) } s2 u2 s2 ∧ Keep Q0 W3 wx) := ⟨HM8.out.1.below HB9.out, HM8.out.2.trans (Keep.of HB9.out)⟩
        clear HM8 HB9
        obtain ⟨xc, o1, o2, o3, o4, o5, o6⟩ := HOp.out wx HM9.out.2
        clear o4 o5 o6
        have HTI : Hid (TI t2.p) := HM9.out.1.ti.1
        have hrd := prd_le HTI.out kk
        have hpr := HPr.out
        by_cases hA : inA t2.p.n kk
        · have e2 : prd t2.p kk = 0 := by unfold prd; rw [if_pos hA]
          have h1 : (kk.1 == 2) = true := by simp [hA.1]
          have h2 : (kk.2.2.toList == []) = true := by have : kk.2.2.toList = [] := (by rw [hA.2.1]; simp [ByteArray.toList_eq]); simp [this]
          have h3 : decide (1 ≤ kk.2.1) = true := by simp [hA.2.2.1]
          have h4 : decide (kk.2.1 ≤ (t2.p.n : Int)) = true := by simp [hA.2.2.2]
          obtain ⟨XX, Fw9, F1w, F2w⟩ := class_of wx
          have HCc : Hid (∃ x, wx.drew = Fw9 x) := F2w _ (bdrew1 wx)
          have hSt : ∀ x, Calls Tryz.prog 15 #[.pointer (some ⟨T, 0, none⟩)] (Fw9 x) fun e w'' => e = .returned (.agg #[.int .i64 (t2.p.n : Nat), .int .i64 (t2.p.z : Nat), .int .i64 (t2.p.g.f : Nat), .int .i64 t2.hint]) ∧ ∃ y, w'' = Fw9 y := fun x => ((HM9.out.1.below (F1w x)).stats).mono fun e w' hh => ⟨hh.1, F2w _ (bthen (F1w x) (F1w x).size hh.2)⟩
          have HK9 : Hid (∀ x, Keep Q0 W3 (Fw9 x)) := fun x => HM9.out.2.trans (Keep.of (F1w x))
          have q0 : ∀ x, (Fw9 x).cell? ⟨X, 3, none⟩ = some (.slice (some ⟨lb, off, none⟩) L' cap) := fun x => (HOp.out _ (HK9.out x)).1
          have q1 : ∀ x, (Fw9 x).cell? ⟨lb, off + k * 8 + 1, none⟩ = some (.int .i64 kk.1) := fun x => (HOp.out _ (HK9.out x)).2.1
          have q2 : ∀ x, (Fw9 x).cell? ⟨lb, off + k * 8 + 2, none⟩ = some (.int .i64 kk.2.1) := fun x => (HOp.out _ (HK9.out x)).2.2.1
          have q3 : ∀ x, (Fw9 x).cell? ⟨lb, off + k * 8 + 3, none⟩ = some (.string kk.2.2) := fun x => (HOp.out _ (HK9.out x)).2.2.2.1
          have HBx9 : Hid (∀ x, Below wx.heap.size wx (Fw9 x)) := F1w
          have CPr : ∀ w, Below wx.heap.size wx w → Calls Tryz.prog 14 #[tp T] w fun e w' => e = .returned (.int .i64 t2.pr) ∧ w' = w := fun w hw => by
            have := (HM9.out.1.below hw).probes
            rw [e2] at this
            simpa using this
          have HRel : Hid (∀ w, Below wx.heap.size wx w → ∃ t s u, Bz Q0 w T S hb RT G (3 + 16 * (k + 1)) t s u s ∧ Eqv t u ∧ Keep Q0 W3 w) := fun w hw => ⟨_, _, _, (HM9.out.1.below hw).more (by omega), HE6.out.pr _, HM9.out.2.trans (Keep.of hw)⟩
          have F0 := fld0
          unfold sv at F0
          unfold tp at CPr
          clear hA e2 F1w F2w HK9
          generalize t2.p.n = nn at *
          go_upto_region 15 with fail
          go_cut [13] from 92 to 132 (fun dw wy => dw = .bool true ∧ Hid (Below wx.heap.size wx wy))
          case first =>
            haveI : Nonempty XX := HCc.out.elim fun x _ => ⟨x⟩
            refine wp_class (F := Fw9) (by kernel_rfl) (by kernel_rfl) HCc.out ?_
            repeat (go_big_quiet_step (exact hSt _))
            refine wpQuiet_nil ?_
            intro _ hw'
            obtain ⟨x9, rfl⟩ := hw'
            go_wp2_with fail
            go_meet
            exact ⟨rfl, HBx9.out x9⟩
          case rest =>
            obtain ⟨rfl, HBy⟩ := hcut
            have CP2 := CPr wc HBy.out
            have HRl := HRel.out wc HBy.out
            have HR2 : Hid (∃ t s u, Bz Q0 wc T S hb RT G (3 + 16 * (k + 1)) t s u s ∧ Eqv t u ∧ Keep Q0 W3 wc) := HRl
            have hne : (t2.pr != t2.pr) = false := by simp
            clear hSt HCc q0 q1 q2 q3 HBx9 CPr HRel HRl h1 h2 h3 h4 xc o1 o2 o3
            generalize t2.pr = p2 at *
            go_wp2_with fail
            refine CP2.mono ?_; rintro e wz ⟨rfl, hwz⟩; rw [hwz]; clear hwz CP2
            go_wp2_with fail
            go_round
            case rel => exact ⟨k + 1, by go_num, by omega, HR2⟩
            case measure => simp [intOf]; omega
        · have e2 : prd t2.p kk = (fnd t2.p.z t2.p.g kk).2 := by unfold prd; rw [if_neg hA]
          have HRel : Hid (∀ w, Below wx.heap.size wx w → ∃ t s u, Bz Q0 w T S hb RT G (3 + 16 * (k + 1)) t s u s ∧ Eqv t u ∧ Keep Q0 W3 w) := fun w hw => ⟨_, _, _, (HM9.out.1.below hw).more (by omega), HE6.out.pr _, HM9.out.2.trans (Keep.of hw)⟩
          have HCP : Hid (∀ w, Below wx.heap.size wx w → Calls Tryz.prog 14 #[.pointer (some ⟨T, 0, none⟩)] w fun e w' => e = .returned (.int .i64 (t2.pr + ((fnd t2.p.z t2.p.g kk).2 : Nat))) ∧ w' = w) := fun w hw => by
            have := (HM9.out.1.below hw).probes
            rw [e2] at this
            exact this
          rw [e2] at hrd
          have hwp : IntKind.i64.wrap (t2.pr + ((fnd t2.p.z t2.p.g kk).2 : Int) - t2.pr) = ((fnd t2.p.z t2.p.g kk).2 : Int) := by rw [IntKind.wrap_i64]; omega
          obtain ⟨XX, Fw9, F1w, F2w⟩ := class_of wx
          have HCc : Hid (∃ x, wx.drew = Fw9 x) := F2w _ (bdrew1 wx)
          have hSt : ∀ x, Calls Tryz.prog 15 #[.pointer (some ⟨T, 0, none⟩)] (Fw9 x) fun e w'' => e = .returned (.agg #[.int .i64 (t2.p.n : Nat), .int .i64 (t2.p.z : Nat), .int .i64 (t2.p.g.f : Nat), .int .i64 t2.hint]) ∧ ∃ y, w'' = Fw9 y := fun x => ((HM9.out.1.below (F1w x)).stats).mono fun e w' hh => ⟨hh.1, F2w _ (bthen (F1w x) (F1w x).size hh.2)⟩
          have HK9 : Hid (∀ x, Keep Q0 W3 (Fw9 x)) := fun x => HM9.out.2.trans (Keep.of (F1w x))
          have q0 : ∀ x, (Fw9 x).cell? ⟨X, 3, none⟩ = some (.slice (some ⟨lb, off, none⟩) L' cap) := fun x => (HOp.out _ (HK9.out x)).1
          have q1 : ∀ x, (Fw9 x).cell? ⟨lb, off + k * 8 + 1, none⟩ = some (.int .i64 kk.1) := fun x => (HOp.out _ (HK9.out x)).2.1
          have q2 : ∀ x, (Fw9 x).cell? ⟨lb, off + k * 8 + 2, none⟩ = some (.int .i64 kk.2.1) := fun x => (HOp.out _ (HK9.out x)).2.2.1
          have q3 : ∀ x, (Fw9 x).cell? ⟨lb, off + k * 8 + 3, none⟩ = some (.string kk.2.2) := fun x => (HOp.out _ (HK9.out x)).2.2.2.1
          have HBx9 : Hid (∀ x, Below wx.heap.size wx (Fw9 x)) := F1w
          have F0 := fld0
          unfold sv at F0
          have HnA : Hid (¬ inA t2.p.n kk) := hA
          clear hA e2 F1w F2w HK9
          generalize (fnd t2.p.z t2.p.g kk).2 = rd at *
          obtain ⟨nn, hnn⟩ : ∃ nn, t2.p.n = nn := ⟨_, rfl⟩
          rw [hnn] at hSt HnA
          clear hnn
          go_upto_region 15 with fail
          go_cut [13] from 92 to 132 (fun dw wy => dw = .bool false ∧ Hid (Below wx.heap.size wx wy))
          case first =>
            by_cases g1 : kk.1 = 2
            · have h1 : (kk.1 == 2) = true := by simp [g1]
              by_cases g2 : kk.2.2.toList = []
              · have h2 : (kk.2.2.toList == []) = true := by simp [g2]
                by_cases g3 : 1 ≤ kk.2.1
                · have h3 : decide (1 ≤ kk.2.1) = true := by simp [g3]
                  have h4 : decide (kk.2.1 ≤ (nn : Int)) = false := by
                    refine decide_eq_false (fun q => HnA.out ⟨g1, ?_, g3, q⟩)
                    rw [← bytes_iff]; simpa [ByteArray.toList_eq] using g2
                  clear g1 g2 g3
                  haveI : Nonempty XX := HCc.out.elim fun x _ => ⟨x⟩
                  refine wp_class (F := Fw9) (by kernel_rfl) (by kernel_rfl) HCc.out ?_
                  repeat (go_big_quiet_step (exact hSt _))
                  refine wpQuiet_nil ?_
                  intro _ hw'
                  obtain ⟨x9, rfl⟩ := hw'
                  go_wp2_with fail
                  go_meet
                  exact ⟨rfl, HBx9.out x9⟩
                · have h3 : decide (1 ≤ kk.2.1) = false := by simp [g3]
                  clear g1 g2 g3
                  go_quiet (fail)
                  go_wp2_with fail
                  go_meet
                  exact ⟨rfl, bdrew _ _ _⟩
              · have h2 : (kk.2.2.toList == []) = false := by simpa using g2
                clear g1 g2
                go_quiet (fail)
                go_wp2_with fail
                go_meet
                exact ⟨rfl, bdrew _ _ _⟩
            · have h1 : (kk.1 == 2) = false := by simpa using g1
              clear g1
              go_quiet (fail)
              go_wp2_with fail
              go_meet
              exact ⟨rfl, bdrew _ _ _⟩
          case rest =>
            obtain ⟨rfl, HBy⟩ := hcut
            have CP2 := HCP.out wc HBy.out
            have HR2 : Hid (∃ t s u, Bz Q0 wc T S hb RT G (3 + 16 * (k + 1)) t s u s ∧ Eqv t u ∧ Keep Q0 W3 wc) := HRel.out wc HBy.out
            have hne : ((rd : Int) != (rd : Int)) = false := by simp
            clear hSt HCc q0 q1 q2 q3 HBx9 HCP HRel xc o1 o2 o3
            go_wp2_with fail
            refine CP2.mono ?_; rintro e wz ⟨rfl, hwz⟩; rw [hwz]; clear hwz CP2
            go_wp2_with fail
            go_round
            case rel => exact ⟨k + 1, by go_num, by omega, HR2⟩
            case measure => simp [intOf]; omega
    · have hle : ¬ (k : Int) < (L' : Int) := by omega
      have y0 := xk.c0
      have y1 := xk.c1
      have y2 := xk.c2
      have CP := hM.probes
      have CG := hM.get (by omega) kq hq
      have hpr := hM.pr
      have HTI : Hid (TI t1.p) := hM.ti.1
      have hrd := prd_le HTI.out kq
      have hrz : prd t1.p kq ≤ t1.p.z := by
        unfold prd
        split
        · omega
        · exact fnd_le HTI.out.inv HTI.out.rt
      have hdz : (prd t1.p kq : Int) ≤ (t1.p.z : Int) := by omega
      have hwp : IntKind.i64.wrap (t1.pr + (prd t1.p kq : Int) - t1.pr) = (prd t1.p kq : Int) := by rw [IntKind.wrap_i64]; omega
      have F1 := fld1
      unfold sv at F1
      unfold vv vl tp at CG
      unfold tp at CP
      clear hM hE hK xk xb hrd hrz
      go_wp2_with fail
      refine CP.mono ?_; rintro e w5 ⟨rfl, hw5⟩; rw [hw5]; clear hw5 CP
      go_wp2_with fail
      refine CG.mono ?_; rintro e w6 ⟨rfl, h6, k6⟩
      have HM6 : Hid (Bz Q0 w6 T S hb RT G (3 + 16 * k + 1) { t1 with pr := t1.pr + (prd t1.p kq : Nat) } s1 u1 s1 ∧ Keep Q0 W3 w6) := ⟨h6, HM.out.2.2.trans k6⟩
      have CD := h6.dump
      unfold tp at CD
      clear CG h6 k6 y0 y1 y2 xc
      go_wp2_with fail
      refine CD.mono ?_; rintro e w7 ⟨dv, dg, dc, rfl, hd⟩
      have HM7 : Hid (Bz Q0 w7 T S hb RT G (3 + 16 * k + 1) { t1 with pr := t1.pr + (prd t1.p kq : Nat) } s1 u1 s1 ∧ Keep Q0 W3 w7) := ⟨HM6.out.1.below hd.bel, HM6.out.2.trans (Keep.of hd.bel)⟩
      have C1 := HM7.out.1.pair1
      unfold tp vv vl at C1
      clear CD hd HM6
      go_wp2_with fail
      refine C1.mono ?_; rintro e w8 ⟨px, py, rfl, hb8⟩
      have HM8 : Hid (Bz Q0 w8 T S hb RT G (3 + 16 * k + 1) { t1 with pr := t1.pr + (prd t1.p kq : Nat) } s1 u1 s1 ∧ Keep Q0 W3 w8) := ⟨HM7.out.1.below hb8, HM7.out.2.trans (Keep.of hb8)⟩
      have CP := HM8.out.1.probes
      have CT := HM8.out.1.stats
      have HBf : Hid (∀ w, Below w8.heap.size w8 w → Below X W w) := fun w hw => (HC.out w (HM8.out.2.trans (Keep.of hw))).2.2
      unfold tp at CP
      unfold ts sv tp at CT
      clear C1 hb8 HM7 HM8
      generalize (prd t1.p kq : Int) = rd at *
      generalize (t1.p.z : Int) = zz at *
      go_wp2_with fail
      refine CP.mono ?_; rintro e w9 ⟨rfl, hw9⟩; rw [hw9]; clear hw9 CP
      go_wp2_with fail
      refine CT.mono ?_; rintro e w9 ⟨rfl, hb9⟩
      have HBl : Hid (Below X W w9) := HBf.out w9 hb9
      clear hb9 CT
      go_wp2_with fail
      go_ret
      exact ⟨rfl, HBl.out⟩
end Go.Proofs.YtonopchpnhninaaGreat
