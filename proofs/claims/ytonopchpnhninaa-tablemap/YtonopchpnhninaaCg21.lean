/- The walk of TableMap. -/
import Derived.Test.YtonopchpnhninaaCg20
namespace Go.Proofs.Ytonopchpnhninaa
open Go.RowKit
set_option maxRecDepth 100000 in
set_option maxHeartbeats 8000000 in
theorem tm_lim (l x y : Int) (a : Option Addr) (L cap : Nat) (hL : L ≤ cap) (W : World) (hl : l < 0 ∨ 400000 < l) :
    Calls Try.prog 3 #[cv l x y (.slice a L cap)] W fun e w' => e = .returned (.bool true) ∧ Below W.heap.size W w' := by
  have CB := fun w => begin_lim l (cN x) (cN y) a (min L 300) cap w hl
  unfold cv at CB
  have CF := fun w => fixed_any w
  have CC := fun w => cut_any l x y a L cap hL w
  unfold cv at CC ⊢
  have R0 := R4.made W (.int .i64 l) (.int .i64 x) (.int .i64 y) (.slice a L cap) 24
  have B0 := b1 W (.cells #[.int .i64 l, .int .i64 x, .int .i64 y, .slice a L cap] 24)
  obtain ⟨W0, hW0⟩ : ∃ W0, W.alloc (.cells #[.int .i64 l, .int .i64 x, .int .i64 y, .slice a L cap] 24) = W0 := ⟨_, rfl⟩
  rw [hW0] at R0 B0
  have HR0 : Hid (R4 W0 W.heap.size (.int .i64 l) (.int .i64 x) (.int .i64 y) (.slice a L cap)) := R0
  have HB0 : Hid (Below W.heap.size W W0) := B0
  clear R0 B0
  generalize hX : W.heap.size = X at *
  have HX : Hid (W.heap.size = X) := hX
  go_enter Try.func3, Try.ntmps3
  go_wp2_with fail
  refine (CF _).mono ?_; rintro e w1 ⟨rfl, hb1⟩
  have R1 := HR0.out.below hb1
  have HB1 : Hid (Below X W w1) := bthen HB0.out (Nat.le_of_lt HR0.out.lt) hb1
  have HR1 : Hid (R4 w1 X (.int .i64 l) (.int .i64 x) (.int .i64 y) (.slice a L cap)) := R1
  have c0 := R1.c0
  have c1 := R1.c1
  have c2 := R1.c2
  have c3 := R1.c3
  clear hb1 R1 HR0 HB0 CF hW0
  go_wp2_with fail
  refine (CC _).mono ?_; rintro e w2 ⟨rfl, hb2⟩
  have R2 := HR1.out.below hb2
  have R3 := R2.set (.int .i64 l) (.int .i64 (cN x)) (.int .i64 (cN y)) (.slice a (min L 300) cap)
  have K3 := ((Keep.refl (fun g => g < X) w2).set4 (N := X) (Nat.lt_irrefl X) (.int .i64 l) (.int .i64 (cN x)) (.int .i64 (cN y)) (.slice a (min L 300) cap)).below (N := X) (Nat.le_of_lt R2.lt) (fun g q => q)
  obtain ⟨W3, hW3⟩ : ∃ W3, set4 w2 X (.int .i64 l) (.int .i64 (cN x)) (.int .i64 (cN y)) (.slice a (min L 300) cap) = W3 := ⟨_, rfl⟩
  rw [hW3] at R3 K3
  unfold set4 at hW3
  have HB3 : Hid (Below X W W3) := (bthen HB1.out (Nat.le_of_lt HR1.out.lt) hb2).trans K3
  have HR3 : Hid (R4 W3 X (.int .i64 l) (.int .i64 (cN x)) (.int .i64 (cN y)) (.slice a (min L 300) cap)) := R3
  have rc0 := R2.c0
  have rc1 := R2.c1
  have rc2 := R2.c2
  have rc3 := R2.c3
  have rcf := R2.fz
  have t0 := R3.c0
  have t1 := R3.c1
  have t2 := R3.c2
  have t3 := R3.c3
  clear hb2 R2 R3 K3 HB1 HR1 CC c0 c1 c2 c3
  go_wp2_with fail
  refine (CB _).mono ?_; rintro e w4 ⟨rfl, hb4⟩
  have HB4 : Hid (Below X W w4) := bthen HB3.out (Nat.le_of_lt HR3.out.lt) hb4
  clear hb4
  go_wp2_with fail
  go_ret
  exact ⟨rfl, HB4.out⟩
set_option maxRecDepth 100000 in
set_option maxHeartbeats 8000000 in
theorem tm_fail (l x y : Int) (a : Option Addr) (L cap : Nat) (hL : L ≤ cap) (W : World) (h0 : 0 ≤ l) (h1 : l ≤ 400000) (he : nE (H.newSt l) (cN x) (cN y) ≠ 0) :
    Calls Try.prog 3 #[cv l x y (.slice a L cap)] W fun e w' => e = .returned (.bool true) ∧ Below W.heap.size W w' := by
  have CB := fun w => begin_fail l (cN x) (cN y) a (min L 300) cap w h0 h1 he
  unfold cv at CB
  clear h0 h1 he
  have CF := fun w => fixed_any w
  have CC := fun w => cut_any l x y a L cap hL w
  unfold cv at CC ⊢
  have R0 := R4.made W (.int .i64 l) (.int .i64 x) (.int .i64 y) (.slice a L cap) 24
  have B0 := b1 W (.cells #[.int .i64 l, .int .i64 x, .int .i64 y, .slice a L cap] 24)
  obtain ⟨W0, hW0⟩ : ∃ W0, W.alloc (.cells #[.int .i64 l, .int .i64 x, .int .i64 y, .slice a L cap] 24) = W0 := ⟨_, rfl⟩
  rw [hW0] at R0 B0
  have HR0 : Hid (R4 W0 W.heap.size (.int .i64 l) (.int .i64 x) (.int .i64 y) (.slice a L cap)) := R0
  have HB0 : Hid (Below W.heap.size W W0) := B0
  clear R0 B0
  generalize hX : W.heap.size = X at *
  have HX : Hid (W.heap.size = X) := hX
  go_enter Try.func3, Try.ntmps3
  go_wp2_with fail
  refine (CF _).mono ?_; rintro e w1 ⟨rfl, hb1⟩
  have R1 := HR0.out.below hb1
  have HB1 : Hid (Below X W w1) := bthen HB0.out (Nat.le_of_lt HR0.out.lt) hb1
  have HR1 : Hid (R4 w1 X (.int .i64 l) (.int .i64 x) (.int .i64 y) (.slice a L cap)) := R1
  have c0 := R1.c0
  have c1 := R1.c1
  have c2 := R1.c2
  have c3 := R1.c3
  clear hb1 R1 HR0 HB0 CF hW0
  go_wp2_with fail
  refine (CC _).mono ?_; rintro e w2 ⟨rfl, hb2⟩
  have R2 := HR1.out.below hb2
  have R3 := R2.set (.int .i64 l) (.int .i64 (cN x)) (.int .i64 (cN y)) (.slice a (min L 300) cap)
  have K3 := ((Keep.refl (fun g => g < X) w2).set4 (N := X) (Nat.lt_irrefl X) (.int .i64 l) (.int .i64 (cN x)) (.int .i64 (cN y)) (.slice a (min L 300) cap)).below (N := X) (Nat.le_of_lt R2.lt) (fun g q => q)
  obtain ⟨W3, hW3⟩ : ∃ W3, set4 w2 X (.int .i64 l) (.int .i64 (cN x)) (.int .i64 (cN y)) (.slice a (min L 300) cap) = W3 := ⟨_, rfl⟩
  rw [hW3] at R3 K3
  unfold set4 at hW3
  have HB3 : Hid (Below X W W3) := (bthen HB1.out (Nat.le_of_lt HR1.out.lt) hb2).trans K3
  have HR3 : Hid (R4 W3 X (.int .i64 l) (.int .i64 (cN x)) (.int .i64 (cN y)) (.slice a (min L 300) cap)) := R3
  have rc0 := R2.c0
  have rc1 := R2.c1
  have rc2 := R2.c2
  have rc3 := R2.c3
  have rcf := R2.fz
  have t0 := R3.c0
  have t1 := R3.c1
  have t2 := R3.c2
  have t3 := R3.c3
  clear hb2 R2 R3 K3 HB1 HR1 CC c0 c1 c2 c3
  go_wp2_with fail
  refine (CB _).mono ?_; rintro e w4 ⟨S, rfl, hb4⟩
  have HB4 : Hid (Below X W w4) := bthen HB3.out (Nat.le_of_lt HR3.out.lt) hb4
  clear hb4
  go_wp2_with fail
  go_ret
  exact ⟨rfl, HB4.out⟩
set_option maxRecDepth 100000 in
set_option maxHeartbeats 8000000 in
theorem tm_ok (l x y : Int) (a : Option Addr) (L cap : Nat) (hL : L ≤ cap) (W : World) (Q : Nat → Int × V × V × Int) (hO : Ops W.heap.size W a L Q) (h0 : 0 ≤ l) (h1 : l ≤ 400000) (he : nE (H.newSt l) (cN x) (cN y) = 0) :
    Calls Try.prog 3 #[cv l x y (.slice a L cap)] W fun e w' => e = .returned (.bool true) ∧ Below W.heap.size W w' := by
  have CB := fun w => begin_ok l (cN x) (cN y) a (min L 300) cap w h0 h1 he
  unfold cv tp at CB
  have HO : Hid (Ops W.heap.size W a (min L 300) Q) := hO.cut (Nat.min_le_left _ _)
  clear h0 h1 he hO
  have CF := fun w => fixed_any w
  have CC := fun w => cut_any l x y a L cap hL w
  unfold cv at CC ⊢
  have R0 := R4.made W (.int .i64 l) (.int .i64 x) (.int .i64 y) (.slice a L cap) 24
  have B0 := b1 W (.cells #[.int .i64 l, .int .i64 x, .int .i64 y, .slice a L cap] 24)
  obtain ⟨W0, hW0⟩ : ∃ W0, W.alloc (.cells #[.int .i64 l, .int .i64 x, .int .i64 y, .slice a L cap] 24) = W0 := ⟨_, rfl⟩
  rw [hW0] at R0 B0
  have HR0 : Hid (R4 W0 W.heap.size (.int .i64 l) (.int .i64 x) (.int .i64 y) (.slice a L cap)) := R0
  have HB0 : Hid (Below W.heap.size W W0) := B0
  clear R0 B0
  generalize hX : W.heap.size = X at *
  have HX : Hid (W.heap.size = X) := hX
  go_enter Try.func3, Try.ntmps3
  go_wp2_with fail
  refine (CF _).mono ?_; rintro e w1 ⟨rfl, hb1⟩
  have R1 := HR0.out.below hb1
  have HB1 : Hid (Below X W w1) := bthen HB0.out (Nat.le_of_lt HR0.out.lt) hb1
  have HR1 : Hid (R4 w1 X (.int .i64 l) (.int .i64 x) (.int .i64 y) (.slice a L cap)) := R1
  have c0 := R1.c0
  have c1 := R1.c1
  have c2 := R1.c2
  have c3 := R1.c3
  clear hb1 R1 HR0 HB0 CF hW0
  go_wp2_with fail
  refine (CC _).mono ?_; rintro e w2 ⟨rfl, hb2⟩
  have R2 := HR1.out.below hb2
  have R3 := R2.set (.int .i64 l) (.int .i64 (cN x)) (.int .i64 (cN y)) (.slice a (min L 300) cap)
  have K3 := ((Keep.refl (fun g => g < X) w2).set4 (N := X) (Nat.lt_irrefl X) (.int .i64 l) (.int .i64 (cN x)) (.int .i64 (cN y)) (.slice a (min L 300) cap)).below (N := X) (Nat.le_of_lt R2.lt) (fun g q => q)
  obtain ⟨W3, hW3⟩ : ∃ W3, set4 w2 X (.int .i64 l) (.int .i64 (cN x)) (.int .i64 (cN y)) (.slice a (min L 300) cap) = W3 := ⟨_, rfl⟩
  rw [hW3] at R3 K3
  unfold set4 at hW3
  have HB3 : Hid (Below X W W3) := (bthen HB1.out (Nat.le_of_lt HR1.out.lt) hb2).trans K3
  have HR3 : Hid (R4 W3 X (.int .i64 l) (.int .i64 (cN x)) (.int .i64 (cN y)) (.slice a (min L 300) cap)) := R3
  have rc0 := R2.c0
  have rc1 := R2.c1
  have rc2 := R2.c2
  have rc3 := R2.c3
  have rcf := R2.fz
  have t0 := R3.c0
  have t1 := R3.c1
  have t2 := R3.c2
  have t3 := R3.c3
  clear hb2 R2 R3 K3 HB1 HR1 CC c0 c1 c2 c3
  go_wp2_with fail
  refine (CB _).mono ?_; rintro e w4 ⟨M, T, A, b, a', S, hb, RT, RA, P, ka, va, ca, G, n', z, t, rfl, bg, ok⟩
  have hlt3 := HR3.out.lt
  have HM0 : Hid (∃ t s, Mp (fun g => g < W3.heap.size) W w4 X (.slice a (min L 300) cap) T S hb 3 t s (.slice none 0 0) (.slice none 0 0) 0 (fun _ => nil) (fun _ => nil)) :=
    ⟨_, _, ⟨⟨A, b, a', bg.tt.sub (fun g q => .inl q)⟩, fun g q => Nat.lt_of_le_of_lt q hlt3, fun x q => (by cases q), fun x q => (by cases q), bthen HB3.out (Nat.le_of_lt hlt3) bg.bel, (HR3.out.below bg.bel).c3, Nat.lt_of_lt_of_le hlt3 bg.bel.size, Lv.nil _ _ _, Lv.nil _ _ _, fun x q => (by cases q), fun i hi => (by omega), fun i j hi => (by omega)⟩⟩
  obtain ⟨L', hL'⟩ : ∃ L', min L 300 = L' := ⟨_, rfl⟩
  have hL3 : L' ≤ 300 := by omega
  have hLc : L' ≤ cap := by omega
  rw [hL'] at HM0 HO
  clear bg ok hlt3 CB HR3 HB3 rc0 rc1 rc2 rc3 rcf t0 t1 t2 t3 hW3
  go_wp2_with fail
  go_loopw [7, 8, 9] (fun kw vw iw wr => ∃ (k m : Nat), iw = .int .i64 (k : Nat) ∧ k ≤ L' ∧ m ≤ k ∧ Hid (∃ P t s KF VF, Mp P W wr X (.slice a L' cap) T S hb (3 + 7 * k) t s kw vw m KF VF ∧ ∀ i, i < m → pget t.p (KF i) = VF i)) (fun _ _ iw _ => L' - (intOf iw).toNat)
  case atStart =>
    obtain ⟨t, s, hm⟩ := HM0.out
    exact ⟨0, 0, rfl, by omega, by omega, ⟨_, t, s, _, _, hm, fun i hi => (by omega)⟩⟩
  case round =>
    obtain ⟨k, m, rfl, hk, hmk, HG⟩ := hrel
    obtain ⟨P, t, s, KF, VF, hM, hmap⟩ := HG.out
    clear HG HM0
    obtain ⟨ak, ck, hvk⟩ := hM.lk.form
    obtain ⟨av, cv, hvv⟩ := hM.lv.form
    subst hvk hvv
    have HM : Hid (Mp P W wr X (.slice a L' cap) T S hb (3 + 7 * k) t s (.slice ak m ck) (.slice av m cv) m KF VF) := hM
    have HMap : Hid (∀ i, i < m → pget t.p (KF i) = VF i) := hmap
    have xc := hM.xc
    clear hmap
    by_cases hlt : k < L'
    · have hlt' : (k : Int) < (L' : Int) := by omega
      obtain ⟨lb, off, ha, hlb, o0, o1, o2, o3, o4, o5, o6, o7⟩ := (HO.out.below hM.bel).at hlt
      subst ha
      have HOx : Hid (∀ w', Keep (fun g => g < X) wr w' → w'.cell? ⟨lb, off + k * 8 + 1, none⟩ = some (.int .i64 (Q k).2.1.1) ∧ w'.cell? ⟨lb, off + k * 8 + 2, none⟩ = some (.int .i64 (Q k).2.1.2.1) ∧ w'.cell? ⟨lb, off + k * 8 + 3, none⟩ = some (.string (Q k).2.1.2.2) ∧ w'.cell? ⟨lb, off + k * 8 + 4, none⟩ = some (.int .i64 (Q k).2.2.1.1) ∧ w'.cell? ⟨lb, off + k * 8 + 5, none⟩ = some (.int .i64 (Q k).2.2.1.2.1) ∧ w'.cell? ⟨lb, off + k * 8 + 6, none⟩ = some (.string (Q k).2.2.1.2.2)) := by
        intro w' hw'
        have hc : ∀ x, w'.cell? ⟨lb, x, none⟩ = wr.cell? ⟨lb, x, none⟩ := fun x => World.cell?_of_block (w := wr) (hw'.block lb (by have := hM.sz; omega) (by show lb < X; omega))
        exact ⟨(hc _).trans o1, (hc _).trans o2, (hc _).trans o3, (hc _).trans o4, (hc _).trans o5, (hc _).trans o6⟩
      have HLB : Hid (lb < X) := by show lb < X; omega
      have hRk : Rng (Q k).2.1 := (HO.out.1 k hlt).1
      have hsz := hM.sz
      obtain ⟨wa, hwa⟩ : ∃ wa, wr.alloc (.cells #[.int .i64 (Q k).2.1.1, .int .i64 (Q k).2.1.2.1, .string (Q k).2.1.2.2] 34) = wa := ⟨_, rfl⟩
      have hba : Below wr.heap.size wr wa := by rw [← hwa]; exact b1 _ _
      have hBa : Bx wa wr.heap.size (Q k).2.1 := by rw [← hwa]; exact Bx.made wr (Q k).2.1
      have hMa := (hM.news hba).below (bdrew1 wa)
      have hsa : wa.heap.size = wr.heap.size + 1 := by rw [← hwa]; simp
      have HKb : Hid ((Value.slice ak m ck).ownBlock ≠ some wr.heap.size ∧ (Value.slice av m cv).ownBlock ≠ some wr.heap.size) := ⟨fun e => by have := (hM.lk.own.lt _ e).2; omega, fun e => by have := (hM.lv.own.lt _ e).2; omega⟩
      obtain ⟨P1, hP1⟩ : ∃ P1, (fun g => P g ∨ (wr.heap.size ≤ g ∧ g < wa.heap.size)) = P1 := ⟨_, rfl⟩
      have hPb : P1 wr.heap.size := by rw [← hP1]; exact .inr ⟨Nat.le_refl _, by omega⟩
      rw [hP1] at hMa
      have HMa : Hid (Mp P1 W wa.drew X (.slice (some ⟨lb, off, none⟩) L' cap) T S hb (3 + 7 * k) t s (.slice ak m ck) (.slice av m cv) m KF VF) := hMa
      have xa : wa.cell? ⟨X, 3, none⟩ = some (.slice (some ⟨lb, off, none⟩) L' cap) := hMa.xc
      have CP := hMa.set (by omega) (Q k).2.1 (Q k).2.2.1 hRk
      have hmp := tset_map (s := s) (k := (Q k).2.1) (v := (Q k).2.2.1) hM.ti hRk
      have HPM : Hid ((tset t s (Q k).2.1 (Q k).2.2.1).2.2 = 0 → KOK (Q k).2.1 ∧ fm (Q k).2.2.1 = true ∧ pget (tset t s (Q k).2.1 (Q k).2.2.1).1.p (Q k).2.1 = (Q k).2.2.1 ∧ ∀ k', KOK k' → k' ≠ (Q k).2.1 → pget (tset t s (Q k).2.1 (Q k).2.2.1).1.p k' = pget t.p k') := hmp.1
      have HPB : Hid ((tset t s (Q k).2.1 (Q k).2.2.1).2.2 ≠ 0 → ∀ k', pget (tset t s (Q k).2.1 (Q k).2.2.1).1.p k' = pget t.p k') := hmp.2
      have HPb : Hid (P1 wr.heap.size) := hPb
      have HBa : Hid (Bx wa wr.heap.size (Q k).2.1) := hBa
      have kc0 := hBa.c0
      have kc1 := hBa.c1
      have kc2 := hBa.c2
      obtain ⟨_, _, _, a4, a5, a6⟩ := HOx.out wa (Keep.of hba)
      have HOa : Hid (∀ w', Keep (fun g => g < X) wa w' → Keep (fun g => g < X) wr w') := fun w' h => (Keep.of hba).trans h
      have HLo : Hid (∀ g, g < X → P1 g) := fun g q => hMa.lo g (Nat.le_of_lt q)
      generalize tset t s (Q k).2.1 (Q k).2.2.1 = r at *
      unfold vv vl tp at CP
      generalize hkb : wr.heap.size = kb at *
      clear hM hMa hba hBa hmp hRk hP1 hsa hPb
      go_upto_region 12 with fail
      go_cut [54] from 32 to 91 (fun bw wx => bw = .bool (r.2.2 != 0) ∧ Hid (Mp P1 W wx X (.slice (some ⟨lb, off, none⟩) L' cap) T S hb (3 + 7 * k + 7) r.1 r.2.1 (.slice ak m ck) (.slice av m cv) m KF VF ∧ Bx wx kb (Q k).2.1 ∧ Keep P1 wa wx))
      case first =>
        go_region_with (go_at_call 9; refine CP.mono ?_; rintro e w5 ⟨rfl, hp, hk2⟩)
        all_goals
          have HX5 : Hid (Mp P1 W w5 X (.slice (some ⟨lb, off, none⟩) L' cap) T S hb (3 + 7 * k + 7) r.1 r.2.1 (.slice ak m ck) (.slice av m cv) m KF VF ∧ Bx w5 kb (Q k).2.1 ∧ Keep P1 wa w5) := ⟨hp, HBa.out.dr.kept hk2 HPb.out, (Keep.of (bdrew1 _)).trans hk2⟩
          clear hp hk2 CP
          go_wp2_with fail
          go_meet
          exact ⟨rfl, HX5⟩
      case rest =>
        obtain ⟨rfl, HX5⟩ := hcut
        clear CP HMa HM HBa o0 o1 o2 o3 o4 o5 o6 o7 a4 a5 a6 kc0 kc1 kc2 xa xc hwa hkb
        have HOw : Hid (∀ w', Keep (fun g => g < X) wc w' → w'.cell? ⟨lb, off + k * 8 + 4, none⟩ = some (.int .i64 (Q k).2.2.1.1) ∧ w'.cell? ⟨lb, off + k * 8 + 5, none⟩ = some (.int .i64 (Q k).2.2.1.2.1) ∧ w'.cell? ⟨lb, off + k * 8 + 6, none⟩ = some (.string (Q k).2.2.1.2.2)) := fun w' h => (HOx.out w' (HOa.out w' ((HX5.out.2.2.sub HLo.out).trans h))).2.2.2
        clear HOx HOa
        by_cases he : r.2.2 = 0
        · obtain ⟨hkok, _, hmk1, hmo⟩ := HPM.out he
          have HKK : Hid (KOK (Q k).2.1) := hkok
          have HMK : Hid (pget r.1.p (Q k).2.1 = (Q k).2.2.1) := hmk1
          have HMO : Hid (∀ k', KOK k' → k' ≠ (Q k).2.1 → pget r.1.p k' = pget t.p k') := hmo
          clear hkok hmk1 hmo HPM HPB
          rw [show (r.2.2 != 0) = false by simp [he]]
          clear he
          go_wp2_with fail
          go_loopw [11, 12] (fun aw jw wr' => ∃ (o : Option Nat) (j : Nat), aw = .int .i64 (fi o) ∧ jw = .int .i64 (j : Nat) ∧ j ≤ m ∧ Hid (∀ i, o = some i → i < j ∧ KF i = (Q k).2.1) ∧ Hid (o = none → ∀ i, i < j → KF i ≠ (Q k).2.1) ∧ Hid (Below wc.heap.size wc wr')) (fun _ jw _ => m - (intOf jw).toNat)
          case atStart => exact ⟨none, 0, rfl, rfl, by omega, fun i h => (by cases h), fun _ i hi => (by omega), Below.refl _ _⟩
          case round =>
            obtain ⟨o, j, rfl, rfl, hj, HO1, HO2, HBj⟩ := hrel
            have hMj := HX5.out.1.below HBj.out
            have hBj := HX5.out.2.1.below HBj.out
            by_cases hjm : j < m
            · have hjm' : (j : Int) < (m : Int) := by omega
              obtain ⟨gk, ck2, hak, hgk1, hgk2, hfz, y0, y1, y2⟩ := hMj.lk.at hjm
              obtain ⟨rfl, rfl⟩ : ak = some ⟨gk, 0, none⟩ ∧ ck = ck2 := by simpa using hak
              have kc0 := hBj.c0
              have kc1 := hBj.c1
              have kc2 := hBj.c2
              have N := eql32 (KF j).1 (KF j).2.1 (Q k).2.1.1 (Q k).2.1.2.1 (KF j).2.2 (Q k).2.1.2.2
              unfold vl at N
              have g32 := guard32
              clear hak hfz hgk1 hgk2 hMj hBj
              by_cases hq : KF j = (Q k).2.1
              · rw [decide_eq_true (show ((KF j).1, (KF j).2.1, (KF j).2.2) = ((Q k).2.1.1, (Q k).2.1.2.1, (Q k).2.1.2.2) from hq)] at N
                have HQ : Hid (KF j = (Q k).2.1) := hq
                clear hq
                go_wp2_with fail
                go_quiet (fail)
                go_wp2_with fail
                go_round
                case rel => exact ⟨some j, j + 1, rfl, by go_num, by omega, fun i h => by cases h; exact ⟨by omega, HQ.out⟩, fun h => (by cases h), HBj.out.trans (bdrew _ _ _)⟩
                case measure => simp [intOf]; omega
              · rw [decide_eq_false (show ¬ ((KF j).1, (KF j).2.1, (KF j).2.2) = ((Q k).2.1.1, (Q k).2.1.2.1, (Q k).2.1.2.2) from hq)] at N
                have HQ : Hid (KF j ≠ (Q k).2.1) := hq
                clear hq
                go_wp2_with fail
                go_quiet (fail)
                go_wp2_with fail
                go_round
                case rel => exact ⟨o, j + 1, rfl, by go_num, by omega, fun i h => ⟨by have := (HO1.out i h).1; omega, (HO1.out i h).2⟩, fun h i hi => by
                  by_cases e : i = j
                  · rw [e]; exact HQ.out
                  · exact HO2.out h i (by omega), HBj.out.trans (bdrew _ _ _)⟩
                case measure => simp [intOf]; omega
            · have hjm' : ¬ (j : Int) < (m : Int) := by omega
              have hjm2 : j = m := by omega
              subst hjm2
              obtain ⟨o4, o5, o6⟩ := HOw.out wr (Keep.of HBj.out)
              have xc := hMj.xc
              have kc0 := hBj.c0
              have kc1 := hBj.c1
              have kc2 := hBj.c2
              have HMr : Hid (Mp P1 W wr X (.slice (some ⟨lb, off, none⟩) L' cap) T S hb (3 + 7 * k + 7) r.1 r.2.1 (.slice ak j ck) (.slice av j cv) j KF VF) := hMj
              have HBr : Hid (Bx wr kb (Q k).2.1) := hBj
              clear HBj HX5 hMj hBj HOw
              cases o with
              | some i0 =>
                obtain ⟨hi0, hki⟩ := HO1.out i0 rfl
                have hi0' : ¬ ((i0 : Int) < 0) := by omega
                have hi0m : (i0 : Int) < (j : Int) := by omega
                obtain ⟨gv, cv2, hav, hgv1, hgv2, hfz, y0, y1, y2⟩ := HMr.out.lv.at hi0
                obtain ⟨rfl, rfl⟩ : av = some ⟨gv, 0, none⟩ ∧ cv = cv2 := by simpa using hav
                have HL2 := HMr.out.lv.set hi0 (Q k).2.2.1
                obtain ⟨w9, hw9⟩ : ∃ w9, ((wr.setCell ⟨gv, i0 * 3, none⟩ (.int .i64 (Q k).2.2.1.1)).setCell ⟨gv, i0 * 3 + 1, none⟩ (.int .i64 (Q k).2.2.1.2.1)).setCell ⟨gv, i0 * 3 + 2, none⟩ (.string (Q k).2.2.1.2.2) = w9 := ⟨_, rfl⟩
                have K9 : Keep (fun x => x ≠ gv) wr w9 := by
                  rw [← hw9]
                  exact (((Keep.refl _ _).set (p := ⟨gv, _, none⟩) (fun q => q rfl) _).set (p := ⟨gv, _, none⟩) (fun q => q rfl) _).set (p := ⟨gv, _, none⟩) (fun q => q rfl) _
                rw [hw9] at HL2
                have HM9 : Hid (∃ P t s KF VF, Mp P W w9 X (.slice (some ⟨lb, off, none⟩) L' cap) T S hb (3 + 7 * (k + 1)) t s (.slice ak j ck) (.slice (some ⟨gv, 0, none⟩) j cv) j KF VF ∧ ∀ i, i < j → pget t.p (KF i) = VF i) := by
                  refine ⟨_, r.1, r.2.1, KF, upd VF i0 (Q k).2.2.1, HMr.out.move (K9.sub fun g q e => q.2 (by rw [e]; rfl)) (HMr.out.lk.keep K9 (fun x hx e => HMr.out.ne x hx (by rw [e]; rfl))) HL2 (fun x q => .inl (HMr.out.ok1 x q)) (fun x q => .inl (HMr.out.ok2 x q)) HMr.out.ne HMr.out.ok HMr.out.one, fun i hi => ?_⟩
                  by_cases e : i = i0
                  · subst e
                    rw [upd_at, hki]; exact HMK.out
                  · rw [upd_ne _ _ e, HMO.out (KF i) (HMr.out.ok i hi) (fun q => e (HMr.out.one i i0 hi hi0 (q.trans hki.symm)))]
                    exact HMap.out i hi
                simp only [fi]
                clear HO1 HO2 hki hav hgv1 hgv2 K9 HL2 HMr
                go_wp2_with fail
                go_round
                case rel => exact ⟨k + 1, j, by go_num, by omega, by omega, HM9⟩
                case measure => simp [intOf]; omega
              | none =>
                have HNEW : Hid (∀ i, i < j → KF i ≠ (Q k).2.1) := HO2.out rfl
                have hsz2 : X < wr.heap.size := HMr.out.sz
                have LK0 : Hid (Lv wr (X + 1) (.slice ak j ck) j KF) := HMr.out.lk
                have LV0 : Hid (Lv wr (X + 1) (.slice av j cv) j VF) := HMr.out.lv
                have NE1 : Hid ((Value.slice ak j ck).ownBlock = none ∨ (Value.slice ak j ck).ownBlock ≠ (Value.slice av j cv).ownBlock) := by
                  cases q : (Value.slice ak j ck).ownBlock with
                  | none => exact .inl rfl
                  | some x => exact .inr (fun e => HMr.out.ne x q e.symm)
                have NE2 : Hid ((Value.slice av j cv).ownBlock = none ∨ (Value.slice av j cv).ownBlock ≠ (Value.slice ak j ck).ownBlock) := by
                  cases q : (Value.slice av j cv).ownBlock with
                  | none => exact .inl rfl
                  | some x => exact .inr (fun e => HMr.out.ne x e.symm q)
                have Hklt : Hid (∀ b, (wr.heap.size ≤ b ∨ b = kb) → (Value.slice ak j ck).ownBlock ≠ some b) := fun b hb e => by
                  rcases hb with hb | rfl
                  · have := (HMr.out.lk.own.lt b e).2; omega
                  · exact HKb.out.1 e
                have Hvlt : Hid (∀ b, (wr.heap.size ≤ b ∨ b = kb) → (Value.slice av j cv).ownBlock ≠ some b) := fun b hb e => by
                  rcases hb with hb | rfl
                  · have := (HMr.out.lv.own.lt b e).2; omega
                  · exact HKb.out.2 e
                have Hkge : Hid (∀ y, (Value.slice ak j ck).ownBlock = some y → ¬ offL (.slice ak j ck) (.slice av j cv) y) := fun y e q => q.1 e
                have Hvge : Hid (∀ y, (Value.slice av j cv).ownBlock = some y → ¬ offL (.slice ak j ck) (.slice av j cv) y) := fun y e q => q.2 e
                have NEkx : Hid (∀ g c s : Nat, ((Value.slice ak j ck).ownBlock = some g ∨ g = s) → wr.heap.size ≤ s → (Value.slice (some ⟨g, 0, none⟩) (j + 1) c).ownBlock ≠ (Value.slice av j cv).ownBlock) := by
                  intro g c s h hs e
                  rcases h with h | h
                  · exact HMr.out.ne g h e.symm
                  · exact Hvlt.out g (.inl (by omega)) e.symm
                have NEvx : Hid (∀ g c s : Nat, ((Value.slice av j cv).ownBlock = some g ∨ g = s) → wr.heap.size ≤ s → (Value.slice (some ⟨g, 0, none⟩) (j + 1) c).ownBlock ≠ (Value.slice ak j ck).ownBlock) := by
                  intro g c s h hs e
                  rcases h with h | h
                  · exact HMr.out.ne g e.symm h
                  · exact Hklt.out g (.inl (by omega)) e.symm
                have HPk : Hid (∀ g s : Nat, ((Value.slice ak j ck).ownBlock = some g ∨ g = s) → wr.heap.size ≤ s → P1 g ∨ wr.heap.size ≤ g) := fun g s h hs => h.elim (fun e => .inl (HMr.out.ok1 g e)) (fun e => .inr (by omega))
                have HPv : Hid (∀ g s : Nat, ((Value.slice av j cv).ownBlock = some g ∨ g = s) → wr.heap.size ≤ s → P1 g ∨ wr.heap.size ≤ g) := fun g s h hs => h.elim (fun e => .inl (HMr.out.ok2 g e)) (fun e => .inr (by omega))
                have HADD : Hid (∀ Wf gk ck' gv cv', Keep (offL (.slice ak j ck) (.slice av j cv)) wr Wf → Lv Wf (X + 1) (.slice (some ⟨gk, 0, none⟩) (j + 1) ck') (j + 1) (upd KF j (Q k).2.1) → Lv Wf (X + 1) (.slice (some ⟨gv, 0, none⟩) (j + 1) cv') (j + 1) (upd VF j (Q k).2.2.1) → gk ≠ gv → (P1 gk ∨ wr.heap.size ≤ gk) → (P1 gv ∨ wr.heap.size ≤ gv) →
                    ∃ P t s KF VF, Mp P W Wf X (.slice (some ⟨lb, off, none⟩) L' cap) T S hb (3 + 7 * (k + 1)) t s (.slice (some ⟨gk, 0, none⟩) (j + 1) ck') (.slice (some ⟨gv, 0, none⟩) (j + 1) cv') (j + 1) KF VF ∧ ∀ i, i < j + 1 → pget t.p (KF i) = VF i) := by
                  intro Wf gk ck' gv cv' hK h1 h2 hne p1 p2
                  refine ⟨_, r.1, r.2.1, _, _, HMr.out.move hK h1 h2 (fun x q => ?_) (fun x q => ?_) ?_ ?_ ?_, ?_⟩
                  · have e1 : gk = x := by simpa [Value.ownBlock] using q
                    rw [← e1]; exact p1
                  · have e1 : gv = x := by simpa [Value.ownBlock] using q
                    rw [← e1]; exact p2
                  · intro x hx hy
                    have e1 : gk = x := by simpa [Value.ownBlock] using hx
                    have e2 : gv = x := by simpa [Value.ownBlock] using hy
                    omega
                  · intro i hi
                    by_cases e : i = j
                    · rw [e, upd_at]; exact HKK.out
                    · rw [upd_ne _ _ e]; exact HMr.out.ok i (by omega)
                  · intro i i2 hi hi2 e
                    by_cases e1 : i = j <;> by_cases e2 : i2 = j
                    · omega
                    · rw [e1, upd_at, upd_ne _ _ e2] at e; exact absurd e.symm (HNEW.out i2 (by omega))
                    · rw [e2, upd_at, upd_ne _ _ e1] at e; exact absurd e (HNEW.out i (by omega))
                    · rw [upd_ne _ _ e1, upd_ne _ _ e2] at e; exact HMr.out.one i i2 (by omega) (by omega) e
                  · intro i hi
                    by_cases e : i = j
                    · rw [e, upd_at, upd_at]; exact HMK.out
                    · rw [upd_ne _ _ e, upd_ne _ _ e, HMO.out (KF i) (HMr.out.ok i (by omega)) (HNEW.out i (by omega))]
                      exact HMap.out i (by omega)
                have HOc : Hid (∀ w', Keep (offL (.slice ak j ck) (.slice av j cv)) wr w' → w'.cell? ⟨X, 3, none⟩ = some (.slice (some ⟨lb, off, none⟩) L' cap) ∧ w'.cell? ⟨lb, off + k * 8 + 4, none⟩ = some (.int .i64 (Q k).2.2.1.1) ∧ w'.cell? ⟨lb, off + k * 8 + 5, none⟩ = some (.int .i64 (Q k).2.2.1.2.1) ∧ w'.cell? ⟨lb, off + k * 8 + 6, none⟩ = some (.string (Q k).2.2.1.2.2) ∧
                    w'.cell? ⟨kb, 0, none⟩ = some (.int .i64 (Q k).2.1.1) ∧ w'.cell? ⟨kb, 1, none⟩ = some (.int .i64 (Q k).2.1.2.1) ∧ w'.cell? ⟨kb, 2, none⟩ = some (.string (Q k).2.1.2.2)) := by
                  intro w' hK
                  have hof : ∀ g, g ≤ X → offL (.slice ak j ck) (.slice av j cv) g := fun g hg => ⟨fun e => by have := (HMr.out.lk.own.lt g e).1; omega, fun e => by have := (HMr.out.lv.own.lt g e).1; omega⟩
                  have hc : ∀ x, w'.cell? ⟨lb, x, none⟩ = wr.cell? ⟨lb, x, none⟩ := fun x => World.cell?_of_block (w := wr) (hK.block lb (by omega) (hof lb (by omega)))
                  have hxx : ∀ x, w'.cell? ⟨X, x, none⟩ = wr.cell? ⟨X, x, none⟩ := fun x => World.cell?_of_block (w := wr) (hK.block X hsz2 (hof X (Nat.le_refl _)))
                  have hkk : ∀ x, w'.cell? ⟨kb, x, none⟩ = wr.cell? ⟨kb, x, none⟩ := fun x => World.cell?_of_block (w := wr) (hK.block kb HBr.out.lt HKb.out)
                  exact ⟨(hxx _).trans xc, (hc _).trans o4, (hc _).trans o5, (hc _).trans o6, (hkk _).trans kc0, (hkk _).trans kc1, (hkk _).trans kc2⟩
                simp only [fi]
                have hj3 : j ≤ 400 := by omega
                clear HO1 HO2 HMr HMK HMO HKK HNEW HMap HKb HBr
                go_wp2_with fail
                go_region_held3 (fun w' => w'.cell? ⟨X, 3, none⟩ = some (.slice (some ⟨lb, off, none⟩) L' cap) ∧ w'.cell? ⟨lb, off + k * 8 + 4, none⟩ = some (.int .i64 (Q k).2.2.1.1) ∧ w'.cell? ⟨lb, off + k * 8 + 5, none⟩ = some (.int .i64 (Q k).2.2.1.2.1) ∧ w'.cell? ⟨lb, off + k * 8 + 6, none⟩ = some (.string (Q k).2.2.1.2.2) ∧ w'.cell? ⟨kb, 0, none⟩ = some (.int .i64 (Q k).2.1.1) ∧ w'.cell? ⟨kb, 1, none⟩ = some (.int .i64 (Q k).2.1.2.1) ∧ w'.cell? ⟨kb, 2, none⟩ = some (.string (Q k).2.1.2.2)) (exact HOc.out _ (by repeat (first | exact Keep.refl _ _ | refine Keep.drew ?_ | refine Keep.alloc ?_ _ | refine TKk ?_ | refine TKv ?_))) (first
                  | (refine step_app (by rfl) _ _ (by rfl) (by rfl) (v := .slice ak j ck) (by rfl) (x := (Q k).2.1) (by exact ⟨_, rfl, by repeat (first | assumption | exact Bx.mk2 _ (by simp) | refine Bx.dr ?_ | refine Bx.al ?_ _ | refine TBk _ _ ?_ (by first | omega | (simp; done) | (simp; omega)) | refine TBv _ _ ?_ (by first | omega | (simp; done) | (simp; omega)))⟩) (B := X + 1) (n := j) (F := KF) (by repeat (first | exact LK0.out | exact LV0.out | assumption | refine Lv.drew ?_ | refine Lv.alloc ?_ _ | refine TLk _ _ _ ?_ (by first | exact NE1.out | exact NE2.out | exact .inr NEk | exact .inr NEv) | refine TLv _ _ _ ?_ (by first | exact NE1.out | exact NE2.out | exact .inr NEk | exact .inr NEv))) (by omega) (by first | omega | (simp; done) | (simp; omega)) ?_; intro gk ck' wk lkN grk atk ltk; have PPk : P1 gk ∨ wr.heap.size ≤ gk := HPk.out gk _ atk (by first | omega | (simp; done) | (simp; omega)); have NEk : (Value.slice (some ⟨gk, 0, none⟩) (j + 1) ck').ownBlock ≠ (Value.slice av j cv).ownBlock := NEkx.out gk ck' _ atk (by first | omega | (simp; done) | (simp; omega)); have TLk := fun (v : Value) (n : Nat) (F : Nat → V) (h : Lv _ (X + 1) v n F) (hne : v.ownBlock = none ∨ v.ownBlock ≠ (Value.slice ak j ck).ownBlock) => h.grown grk hne; have TBk := fun (b : Nat) (x : V) (h : Bx _ b x) (hb : wr.heap.size ≤ b) => Bx.gr grk h (Hklt.out b (.inl hb)); have TKk := fun (h : Keep (offL (.slice ak j ck) (.slice av j cv)) wr _) => h.grw grk Hkge.out; have szk := grk.size; try simp at szk)
                  | (refine step_app (by rfl) _ _ (by rfl) (by rfl) (v := .slice av j cv) (by rfl) (x := (Q k).2.2.1) (by exact ⟨_, rfl, by repeat (first | assumption | exact Bx.mk2 _ (by simp) | refine Bx.dr ?_ | refine Bx.al ?_ _ | refine TBk _ _ ?_ (by first | omega | (simp; done) | (simp; omega)) | refine TBv _ _ ?_ (by first | omega | (simp; done) | (simp; omega)))⟩) (B := X + 1) (n := j) (F := VF) (by repeat (first | exact LK0.out | exact LV0.out | assumption | refine Lv.drew ?_ | refine Lv.alloc ?_ _ | refine TLk _ _ _ ?_ (by first | exact NE1.out | exact NE2.out | exact .inr NEk | exact .inr NEv) | refine TLv _ _ _ ?_ (by first | exact NE1.out | exact NE2.out | exact .inr NEk | exact .inr NEv))) (by omega) (by first | omega | (simp; done) | (simp; omega)) ?_; intro gv cv' wv lvN grv atv ltv; have PPv : P1 gv ∨ wr.heap.size ≤ gv := HPv.out gv _ atv (by first | omega | (simp; done) | (simp; omega)); have NEv : (Value.slice (some ⟨gv, 0, none⟩) (j + 1) cv').ownBlock ≠ (Value.slice ak j ck).ownBlock := NEvx.out gv cv' _ atv (by first | omega | (simp; done) | (simp; omega)); have TLv := fun (v : Value) (n : Nat) (F : Nat → V) (h : Lv _ (X + 1) v n F) (hne : v.ownBlock = none ∨ v.ownBlock ≠ (Value.slice av j cv).ownBlock) => h.grown grv hne; have TBv := fun (b : Nat) (x : V) (h : Bx _ b x) (hb : wr.heap.size ≤ b) => Bx.gr grv h (Hvlt.out b (.inl hb)); have TKv := fun (h : Keep (offL (.slice ak j ck) (.slice av j cv)) wr _) => h.grw grv Hvge.out; have szv := grv.size; try simp at szv))
                all_goals
                  have HGN : Hid (gk ≠ gv) := by
                    first
                      | (rcases atv with q | q
                         · exact fun e => NEk (by rw [q, e]; rfl)
                         · (show gk ≠ gv; first | omega | (simp at q; omega)))
                      | (rcases atk with q | q
                         · exact fun e => NEv (by rw [q, ← e]; rfl)
                         · (show gk ≠ gv; first | omega | (simp at q; omega)))
                  go_wp2_with fail
                  go_round
                  case rel => exact ⟨k + 1, j + 1, by go_num, by omega, by omega, HADD.out _ _ _ _ _ (by repeat (first | exact Keep.refl _ _ | refine Keep.drew ?_ | refine Keep.alloc ?_ _ | refine TKk ?_ | refine TKv ?_)) (by repeat (first | exact LK0.out | exact LV0.out | assumption | refine Lv.drew ?_ | refine Lv.alloc ?_ _ | refine TLk _ _ _ ?_ (by first | exact NE1.out | exact NE2.out | exact .inr NEk | exact .inr NEv) | refine TLv _ _ _ ?_ (by first | exact NE1.out | exact NE2.out | exact .inr NEk | exact .inr NEv))) (by repeat (first | exact LK0.out | exact LV0.out | assumption | refine Lv.drew ?_ | refine Lv.alloc ?_ _ | refine TLk _ _ _ ?_ (by first | exact NE1.out | exact NE2.out | exact .inr NEk | exact .inr NEv) | refine TLv _ _ _ ?_ (by first | exact NE1.out | exact NE2.out | exact .inr NEk | exact .inr NEv))) HGN.out PPk PPv⟩
                  case measure => simp [intOf]; omega
        · have hmb := HPB.out he
          have HMC : Hid (∃ P t s KF VF, Mp P W wc X (.slice (some ⟨lb, off, none⟩) L' cap) T S hb (3 + 7 * (k + 1)) t s (.slice ak m ck) (.slice av m cv) m KF VF ∧ ∀ i, i < m → pget t.p (KF i) = VF i) := ⟨P1, r.1, r.2.1, KF, VF, HX5.out.1, fun i hi => (hmb (KF i)).trans (HMap.out i hi)⟩
          rw [show (r.2.2 != 0) = true by simpa using he]
          clear hmb HX5 HPM HPB he
          go_wp2_with fail
          go_round
          case rel => exact ⟨k + 1, m, by go_num, by omega, by omega, HMC⟩
          case measure => simp [intOf]; omega
    · have hA : ¬ (k : Int) < (L' : Int) := by omega
      clear hM
      go_wp2_with fail
      go_loopw [13] (fun jw wr' => ∃ j : Nat, jw = .int .i64 (j : Nat) ∧ j ≤ m ∧ Hid (∃ t, Mp P W wr' X (.slice a L' cap) T S hb (3 + 7 * k + j) t s (.slice ak m ck) (.slice av m cv) m KF VF ∧ ∀ i, i < m → pget t.p (KF i) = VF i)) (fun jw _ => m - (intOf jw).toNat)
      case atStart => exact ⟨0, rfl, by omega, ⟨t, HM.out, HMap.out⟩⟩
      case round =>
        obtain ⟨j, rfl, hj, HMj⟩ := hrel
        obtain ⟨t, hMj, hmap⟩ := HMj.out
        clear HM HMj HMap
        by_cases hjm : j < m
        · have hjm' : (j : Int) < (m : Int) := by omega
          obtain ⟨gk, ck2, hak, _, _, _, y0, y1, y2⟩ := hMj.lk.at hjm
          obtain ⟨rfl, rfl⟩ : ak = some ⟨gk, 0, none⟩ ∧ ck = ck2 := by simpa using hak
          obtain ⟨gv, cv2, hav, _, _, _, p0, p1, p2⟩ := hMj.lv.at hjm
          obtain ⟨rfl, rfl⟩ : av = some ⟨gv, 0, none⟩ ∧ cv = cv2 := by simpa using hav
          have hkok := hMj.ok j hjm
          have CG := (hMj.below (bdrew1 _)).get (by omega) (KF j) ⟨hkok.2.2.1, hkok.2.2.2⟩
          rw [hmap j hjm] at CG
          unfold vv vl tp at CG
          have HPv : Hid (∀ w', Mp P W w' X (.slice a L' cap) T S hb (3 + 7 * k + j + 1) { t with pr := t.pr + (prd t.p (KF j) : Nat) } s (.slice (some ⟨gk, 0, none⟩) m ck) (.slice (some ⟨gv, 0, none⟩) m cv) m KF VF → w'.cell? ⟨gv, j * 3, none⟩ = some (.int .i64 (VF j).1) ∧ w'.cell? ⟨gv, j * 3 + 1, none⟩ = some (.int .i64 (VF j).2.1) ∧ w'.cell? ⟨gv, j * 3 + 2, none⟩ = some (.string (VF j).2.2)) := fun w' h => by
            obtain ⟨g2, c2, e2, _, _, _, s0, s1, s2⟩ := h.lv.at hjm
            obtain ⟨rfl, rfl⟩ : gv = g2 ∧ cv = c2 := by simpa using e2
            exact ⟨s0, s1, s2⟩
          have HMp : Hid (∀ i, i < m → pget t.p (KF i) = VF i) := hmap
          have Ne := neq32 (VF j).1 (VF j).2.1 (VF j).1 (VF j).2.1 (VF j).2.2 (VF j).2.2
          simp only [decide_true, Bool.not_true] at Ne
          unfold vl at Ne
          have g32 := guard32
          clear hak hav hkok hmap hMj
          go_upto_region 25 with fail
          go_cut [108] from 92 to 108 (fun bw wx => bw = .bool false ∧ Hid (Mp P W wx X (.slice a L' cap) T S hb (3 + 7 * k + j + 1) { t with pr := t.pr + (prd t.p (KF j) : Nat) } s (.slice (some ⟨gk, 0, none⟩) m ck) (.slice (some ⟨gv, 0, none⟩) m cv) m KF VF))
          case first =>
            go_region_with (go_at_call 10; refine CG.mono ?_; rintro e w5 ⟨rfl, hp, hk2⟩; have HP5 : Hid (Mp P W w5 X (.slice a L' cap) T S hb (3 + 7 * k + j + 1) { t with pr := t.pr + (prd t.p (KF j) : Nat) } s (.slice (some ⟨gk, 0, none⟩) m ck) (.slice (some ⟨gv, 0, none⟩) m cv) m KF VF) := hp; obtain ⟨z0, z1, z2⟩ := HPv.out w5 hp; clear hp hk2)
            all_goals
              go_wp2_with fail
              go_meet
              exact ⟨rfl, by first | exact HP5 | exact HP5.out.below (bdrew1 _)⟩
          case rest =>
            obtain ⟨rfl, HX5⟩ := hcut
            clear CG y0 y1 y2 p0 p1 p2 HPv
            go_wp2_with fail
            go_round
            case rel => exact ⟨j + 1, by go_num, by omega, ⟨_, HX5.out, HMp.out⟩⟩
            case measure => simp [intOf]; omega
        · have hjm' : ¬ (j : Int) < (m : Int) := by omega
          have HBl : Hid (Below X W wr) := hMj.bel
          clear hMj hmap
          go_wp2_with fail
          go_ret
          exact ⟨rfl, HBl.out⟩
end Go.Proofs.Ytonopchpnhninaa
