/- The walk of TableValues. -/
import Derived.Test.YtonopchpnhninabCg26
import Derived.Deep.RegionHeld3
namespace Go.Proofs.Ytonopchpnhninab
open Go.RowKit
theorem V2.set3 {Q : Nat → Prop} {W w : World} {X : Nat} {xs : Value} {T S hb T' S' hb' c : Nat} {t u : TS} {s s' : H.St} (h : V2 Q W w X xs T S hb T' S' hb' c t u s s') {N : Nat} (hN : Q N) (hX : X < N) (x : V) : V2 Q W (Proofs.Ytonopchpnhninab.set3 w N x) X xs T S hb T' S' hb' c t u s s' := by
  obtain ⟨N1, N2, ⟨A, b, a, h1⟩, ⟨A', b', a', h2⟩, h3, h4⟩ := h.tt
  have hsz : (Proofs.Ytonopchpnhninab.set3 w N x).heap.size = w.heap.size := by simp [World.setCell]
  have k : Keep (fun g => g ≠ N) w (Proofs.Ytonopchpnhninab.set3 w N x) := (Keep.refl _ w).set3 (fun q => q rfl) x
  exact ⟨⟨N1, N2, ⟨A, b, a, h1.set3 (h4 N hN).1 x⟩, ⟨A', b', a', h2.set3 (h4 N hN).2 x⟩, fun g q => h3 g (hsz ▸ q), h4⟩, h.lo, h.bel.trans (k.below (Nat.le_of_lt h.sz) (fun g hg => by show g ≠ N; omega)), by rw [World.cell?_of_block (w := w) (k.block X h.sz (by show X ≠ N; omega))]; exact h.xc, by rw [hsz]; exact h.sz⟩
theorem mT_new (n z : Nat) (x y : Int) : mT (newT n z x y) = newT n z x y := by
  show ({ newT n z x y with p := mP (fresh n z) } : TS) = _
  rw [fresh_oo]; rfl
theorem Okn.eq {s : H.St} {x y : Int} {n z n' z' : Nat} (o : Okn s x y n z) (o' : Okn s x y n' z') : n' = n ∧ z' = z := by
  have h1 := o.ex
  have h2 := o'.ex
  obtain ⟨m, rfl, _, hz⟩ := o.hy
  obtain ⟨m', hm, _, hz'⟩ := o'.hy
  have hmm : m' = m := by omega
  subst hmm
  rw [hz] at hz'
  exact ⟨by omega, by omega⟩
/-- Two boxes of one value each. -/
theorem box2 (wr : World) (v : V) : Bx ((wr.alloc (vb v.1 v.2.1 v.2.2)).alloc (vb v.1 v.2.1 v.2.2)) wr.heap.size v ∧ R3 ((wr.alloc (vb v.1 v.2.1 v.2.2)).alloc (vb v.1 v.2.1 v.2.2)) (wr.heap.size + 1) v ∧ Below wr.heap.size wr ((wr.alloc (vb v.1 v.2.1 v.2.2)).alloc (vb v.1 v.2.1 v.2.2)) := by
  have h2 := R3.made (wr.alloc (vb v.1 v.2.1 v.2.2)) v
  rw [show (wr.alloc (vb v.1 v.2.1 v.2.2)).heap.size = wr.heap.size + 1 by simp] at h2
  exact ⟨(Bx.made wr v).below (b1 _ _), h2, b2 wr _ _⟩
set_option maxRecDepth 100000 in
set_option maxHeartbeats 8000000 in
theorem tv_lim (l x y : Int) (a : Option Addr) (L cap : Nat) (hL : L ≤ cap) (W : World) (hl : l < 0 ∨ 400000 < l) :
    Calls Try.prog 3 #[cv l x y (.slice a L cap)] W fun e w' => e = .returned (.bool true) ∧ Below W.heap.size W w' := by
  have CB := fun w => begin_lim l (cN x) (cN y) a (min L 300) cap w hl
  unfold cv at CB
  have CF := fun w => fixed_any w
  have CC := fun w => cut_any l x y a L cap hL w
  unfold cv at CC ⊢
  have R0 := R4.made W (.int .i64 l) (.int .i64 x) (.int .i64 y) (.slice a L cap) 24
  have B0 := b1 W (.cells #[.int .i64 l, .int .i64 x, .int .i64 y, .slice a L cap] 24)
  obtain ⟨W0, hW0⟩ : ∃ W0, W.alloc (.cells #[.int .i64 l, .int .i64 x, .int .i64 y, .slice a L cap] 24) = W0 := ⟨_, rfl⟩
  rw [hW0] at R0 B0
  have HR0 : Hid (R4 W0 W.heap.size (.int .i64 l) (.int .i64 x) (.int .i64 y) (.slice a L cap)) := R0
  have HB0 : Hid (Below W.heap.size W W0) := B0
  clear R0 B0
  generalize hX : W.heap.size = X at *
  have HX : Hid (W.heap.size = X) := hX
  go_enter Try.func3, Try.ntmps3
  go_wp2_with fail
  refine (CF _).mono ?_; rintro e w1 ⟨rfl, hb1⟩
  have R1 := HR0.out.below hb1
  have HB1 : Hid (Below X W w1) := bthen HB0.out (Nat.le_of_lt HR0.out.lt) hb1
  have HR1 : Hid (R4 w1 X (.int .i64 l) (.int .i64 x) (.int .i64 y) (.slice a L cap)) := R1
  have c0 := R1.c0
  have c1 := R1.c1
  have c2 := R1.c2
  have c3 := R1.c3
  clear hb1 R1 HR0 HB0 CF hW0
  go_wp2_with fail
  refine (CC _).mono ?_; rintro e w2 ⟨rfl, hb2⟩
  have R2 := HR1.out.below hb2
  have R3 := R2.set (.int .i64 l) (.int .i64 (cN x)) (.int .i64 (cN y)) (.slice a (min L 300) cap)
  have K3 := ((Keep.refl (fun g => g < X) w2).set4 (N := X) (Nat.lt_irrefl X) (.int .i64 l) (.int .i64 (cN x)) (.int .i64 (cN y)) (.slice a (min L 300) cap)).below (N := X) (Nat.le_of_lt R2.lt) (fun g q => q)
  obtain ⟨W3, hW3⟩ : ∃ W3, set4 w2 X (.int .i64 l) (.int .i64 (cN x)) (.int .i64 (cN y)) (.slice a (min L 300) cap) = W3 := ⟨_, rfl⟩
  rw [hW3] at R3 K3
  unfold set4 at hW3
  have HB3 : Hid (Below X W W3) := (bthen HB1.out (Nat.le_of_lt HR1.out.lt) hb2).trans K3
  have HR3 : Hid (R4 W3 X (.int .i64 l) (.int .i64 (cN x)) (.int .i64 (cN y)) (.slice a (min L 300) cap)) := R3
  have rc0 := R2.c0
  have rc1 := R2.c1
  have rc2 := R2.c2
  have rc3 := R2.c3
  have rcf := R2.fz
  have t0 := R3.c0
  have t1 := R3.c1
  have t2 := R3.c2
  have t3 := R3.c3
  clear hb2 R2 R3 K3 HB1 HR1 CC c0 c1 c2 c3
  go_wp2_with fail
  refine (CB _).mono ?_; rintro e w4 ⟨rfl, hb4⟩
  have R4b := HR3.out.below hb4
  have HB4 : Hid (Below X W w4) := bthen HB3.out (Nat.le_of_lt HR3.out.lt) hb4
  have HLt : Hid (X < w4.heap.size) := R4b.lt
  have b0 := R4b.c0
  have b1' := R4b.c1
  have b2' := R4b.c2
  have b3 := R4b.c3
  clear R4b hb4
  go_wp2_with fail
  refine (CB _).mono ?_; rintro e w5 ⟨rfl, hb5⟩
  have HB5 : Hid (Below X W w5) := bthen HB4.out (Nat.le_of_lt HLt.out) hb5
  clear hb5
  go_wp2_with fail
  go_ret
  exact ⟨rfl, HB5.out⟩
set_option maxRecDepth 100000 in
set_option maxHeartbeats 8000000 in
theorem tv_fail (l x y : Int) (a : Option Addr) (L cap : Nat) (hL : L ≤ cap) (W : World) (h0 : 0 ≤ l) (h1 : l ≤ 400000) (he : nE (H.newSt l) (cN x) (cN y) ≠ 0) :
    Calls Try.prog 3 #[cv l x y (.slice a L cap)] W fun e w' => e = .returned (.bool true) ∧ Below W.heap.size W w' := by
  have CB := fun w => begin_fail l (cN x) (cN y) a (min L 300) cap w h0 h1 he
  unfold cv at CB
  clear h0 h1 he
  have CF := fun w => fixed_any w
  have CC := fun w => cut_any l x y a L cap hL w
  unfold cv at CC ⊢
  have R0 := R4.made W (.int .i64 l) (.int .i64 x) (.int .i64 y) (.slice a L cap) 24
  have B0 := b1 W (.cells #[.int .i64 l, .int .i64 x, .int .i64 y, .slice a L cap] 24)
  obtain ⟨W0, hW0⟩ : ∃ W0, W.alloc (.cells #[.int .i64 l, .int .i64 x, .int .i64 y, .slice a L cap] 24) = W0 := ⟨_, rfl⟩
  rw [hW0] at R0 B0
  have HR0 : Hid (R4 W0 W.heap.size (.int .i64 l) (.int .i64 x) (.int .i64 y) (.slice a L cap)) := R0
  have HB0 : Hid (Below W.heap.size W W0) := B0
  clear R0 B0
  generalize hX : W.heap.size = X at *
  have HX : Hid (W.heap.size = X) := hX
  go_enter Try.func3, Try.ntmps3
  go_wp2_with fail
  refine (CF _).mono ?_; rintro e w1 ⟨rfl, hb1⟩
  have R1 := HR0.out.below hb1
  have HB1 : Hid (Below X W w1) := bthen HB0.out (Nat.le_of_lt HR0.out.lt) hb1
  have HR1 : Hid (R4 w1 X (.int .i64 l) (.int .i64 x) (.int .i64 y) (.slice a L cap)) := R1
  have c0 := R1.c0
  have c1 := R1.c1
  have c2 := R1.c2
  have c3 := R1.c3
  clear hb1 R1 HR0 HB0 CF hW0
  go_wp2_with fail
  refine (CC _).mono ?_; rintro e w2 ⟨rfl, hb2⟩
  have R2 := HR1.out.below hb2
  have R3 := R2.set (.int .i64 l) (.int .i64 (cN x)) (.int .i64 (cN y)) (.slice a (min L 300) cap)
  have K3 := ((Keep.refl (fun g => g < X) w2).set4 (N := X) (Nat.lt_irrefl X) (.int .i64 l) (.int .i64 (cN x)) (.int .i64 (cN y)) (.slice a (min L 300) cap)).below (N := X) (Nat.le_of_lt R2.lt) (fun g q => q)
  obtain ⟨W3, hW3⟩ : ∃ W3, set4 w2 X (.int .i64 l) (.int .i64 (cN x)) (.int .i64 (cN y)) (.slice a (min L 300) cap) = W3 := ⟨_, rfl⟩
  rw [hW3] at R3 K3
  unfold set4 at hW3
  have HB3 : Hid (Below X W W3) := (bthen HB1.out (Nat.le_of_lt HR1.out.lt) hb2).trans K3
  have HR3 : Hid (R4 W3 X (.int .i64 l) (.int .i64 (cN x)) (.int .i64 (cN y)) (.slice a (min L 300) cap)) := R3
  have rc0 := R2.c0
  have rc1 := R2.c1
  have rc2 := R2.c2
  have rc3 := R2.c3
  have rcf := R2.fz
  have t0 := R3.c0
  have t1 := R3.c1
  have t2 := R3.c2
  have t3 := R3.c3
  clear hb2 R2 R3 K3 HB1 HR1 CC c0 c1 c2 c3
  go_wp2_with fail
  refine (CB _).mono ?_; rintro e w4 ⟨S4, rfl, hb4⟩
  have R4b := HR3.out.below hb4
  have HB4 : Hid (Below X W w4) := bthen HB3.out (Nat.le_of_lt HR3.out.lt) hb4
  have HLt : Hid (X < w4.heap.size) := R4b.lt
  have b0 := R4b.c0
  have b1' := R4b.c1
  have b2' := R4b.c2
  have b3 := R4b.c3
  clear R4b hb4
  go_wp2_with fail
  refine (CB _).mono ?_; rintro e w5 ⟨S5, rfl, hb5⟩
  have HB5 : Hid (Below X W w5) := bthen HB4.out (Nat.le_of_lt HLt.out) hb5
  clear hb5
  go_wp2_with fail
  go_ret
  exact ⟨rfl, HB5.out⟩
set_option maxRecDepth 100000 in
set_option maxHeartbeats 8000000 in
theorem tv_ok (l x y : Int) (a : Option Addr) (L cap : Nat) (hL : L ≤ cap) (W : World) (Q : Nat → Int × V × V × Int) (hO : Ops W.heap.size W a L Q) (h0 : 0 ≤ l) (h1 : l ≤ 400000) (he : nE (H.newSt l) (cN x) (cN y) = 0) :
    Calls Try.prog 3 #[cv l x y (.slice a L cap)] W fun e w' => e = .returned (.bool true) ∧ Below W.heap.size W w' := by
  have CB := fun w => begin_ok l (cN x) (cN y) a (min L 300) cap w h0 h1 he
  unfold cv tp at CB
  have HO : Hid (Ops W.heap.size W a (min L 300) Q) := hO.cut (Nat.min_le_left _ _)
  clear h0 h1 he hO
  have CF := fun w => fixed_any w
  have CC := fun w => cut_any l x y a L cap hL w
  unfold cv at CC ⊢
  have R0 := R4.made W (.int .i64 l) (.int .i64 x) (.int .i64 y) (.slice a L cap) 24
  have B0 := b1 W (.cells #[.int .i64 l, .int .i64 x, .int .i64 y, .slice a L cap] 24)
  obtain ⟨W0, hW0⟩ : ∃ W0, W.alloc (.cells #[.int .i64 l, .int .i64 x, .int .i64 y, .slice a L cap] 24) = W0 := ⟨_, rfl⟩
  rw [hW0] at R0 B0
  have HR0 : Hid (R4 W0 W.heap.size (.int .i64 l) (.int .i64 x) (.int .i64 y) (.slice a L cap)) := R0
  have HB0 : Hid (Below W.heap.size W W0) := B0
  clear R0 B0
  generalize hX : W.heap.size = X at *
  have HX : Hid (W.heap.size = X) := hX
  go_enter Try.func3, Try.ntmps3
  go_wp2_with fail
  refine (CF _).mono ?_; rintro e w1 ⟨rfl, hb1⟩
  have R1 := HR0.out.below hb1
  have HB1 : Hid (Below X W w1) := bthen HB0.out (Nat.le_of_lt HR0.out.lt) hb1
  have HR1 : Hid (R4 w1 X (.int .i64 l) (.int .i64 x) (.int .i64 y) (.slice a L cap)) := R1
  have c0 := R1.c0
  have c1 := R1.c1
  have c2 := R1.c2
  have c3 := R1.c3
  clear hb1 R1 HR0 HB0 CF hW0
  go_wp2_with fail
  refine (CC _).mono ?_; rintro e w2 ⟨rfl, hb2⟩
  have R2 := HR1.out.below hb2
  have R3 := R2.set (.int .i64 l) (.int .i64 (cN x)) (.int .i64 (cN y)) (.slice a (min L 300) cap)
  have K3 := ((Keep.refl (fun g => g < X) w2).set4 (N := X) (Nat.lt_irrefl X) (.int .i64 l) (.int .i64 (cN x)) (.int .i64 (cN y)) (.slice a (min L 300) cap)).below (N := X) (Nat.le_of_lt R2.lt) (fun g q => q)
  obtain ⟨W3, hW3⟩ : ∃ W3, set4 w2 X (.int .i64 l) (.int .i64 (cN x)) (.int .i64 (cN y)) (.slice a (min L 300) cap) = W3 := ⟨_, rfl⟩
  rw [hW3] at R3 K3
  unfold set4 at hW3
  have HB3 : Hid (Below X W W3) := (bthen HB1.out (Nat.le_of_lt HR1.out.lt) hb2).trans K3
  have HR3 : Hid (R4 W3 X (.int .i64 l) (.int .i64 (cN x)) (.int .i64 (cN y)) (.slice a (min L 300) cap)) := R3
  have rc0 := R2.c0
  have rc1 := R2.c1
  have rc2 := R2.c2
  have rc3 := R2.c3
  have rcf := R2.fz
  have t0 := R3.c0
  have t1 := R3.c1
  have t2 := R3.c2
  have t3 := R3.c3
  clear hb2 R2 R3 K3 HB1 HR1 CC c0 c1 c2 c3
  go_wp2_with fail
  refine (CB _).mono ?_; rintro e w4 ⟨M, T, A, b, a', S, hb, RT, RA, P, ka, va, ca, G, n', z, t, rfl, bg, ok, es1, es2⟩
  have hlt3 := HR3.out.lt
  have R4b := HR3.out.below bg.bel
  have HLt : Hid (X < w4.heap.size) := R4b.lt
  have HB4 : Hid (Below X W w4) := bthen HB3.out (Nat.le_of_lt hlt3) bg.bel
  have HT4 : Hid (TT (fun g => g < W3.heap.size ∨ (M ≤ g ∧ g < w4.heap.size)) w4 T A b a' S hb 3 t (nS (H.newSt l) (cN x) (cN y)) ∧ Okn (H.newSt l) (cN x) (cN y) n' z ∧ t = newT n' z (H.takeId (H.takeSt (H.newSt l) 4) (n' : Nat)) (H.takeId (H.takeSt (H.takeSt (H.newSt l) 4) (n' : Nat)) (3 * (z : Nat))) ∧ X < W3.heap.size ∧ W3.heap.size ≤ w4.heap.size) := ⟨bg.tt, ok, by have h := bg.et; rw [es1, es2] at h; exact h, hlt3, bg.bel.size⟩
  have b0 := R4b.c0
  have b1' := R4b.c1
  have b2' := R4b.c2
  have b3 := R4b.c3
  have HR4 : Hid (R4 w4 X (.int .i64 l) (.int .i64 (cN x)) (.int .i64 (cN y)) (.slice a (min L 300) cap)) := R4b
  have CB2 := CB w4
  clear CB bg ok es1 es2 hlt3 R4b HR3 HB3 rc0 rc1 rc2 rc3 rcf t0 t1 t2 t3 hW3
  go_wp2_with fail
  refine CB2.mono ?_; rintro e w5 ⟨M2, T2, A2, b2, a2, S2, hb2, RT2, RA2, P2, ka2, va2, ca2, G2, n2, z2, u, rfl, bg, ok, es1, es2⟩
  obtain ⟨L', hL'⟩ : ∃ L', min L 300 = L' := ⟨_, rfl⟩
  have hL3 : L' ≤ 300 := by omega
  have hLc : L' ≤ cap := by omega
  rw [hL'] at HR4 HO
  have HV5 : Hid (∃ t s, V2 (fun g => g ≤ X) W w5 X (.slice a L' cap) T S hb T2 S2 hb2 3 t (mT t) s s) := by
    obtain ⟨h1, h2, h3, h4, h5⟩ := HT4.out
    obtain ⟨e1, e2⟩ := h2.eq ok
    have hu : u = mT t := by
      have h := bg.et
      rw [es1, es2, e1, e2] at h
      rw [h3, mT_new]; exact h
    refine ⟨t, _, ⟨⟨_, _, ⟨A, b, a', h1.news bg.bel⟩, ⟨A2, b2, a2, hu ▸ bg.tt⟩, fun g q => ?_, fun g q => ?_⟩, fun g q => q, bthen HB4.out (Nat.le_of_lt HLt.out) bg.bel, (HR4.out.below bg.bel).c3, Nat.lt_of_lt_of_le HLt.out bg.bel.size⟩⟩
    · by_cases hg : g < w4.heap.size
      · exact .inr (.inl hg)
      · exact .inl (.inr ⟨by omega, q⟩)
    · have hg : g ≤ X := q
      exact ⟨.inl (.inl (by omega)), .inl (by omega)⟩
  clear CB2 bg ok es1 es2 HT4 HB4 HLt HR4 b0 b1' b2' b3
  go_wp2_with fail
  go_loopw [11] (fun iw wr => ∃ k : Nat, iw = .int .i64 (k : Nat) ∧ k ≤ L' ∧ Hid (∃ t s, V2 (fun g => g ≤ X) W wr X (.slice a L' cap) T S hb T2 S2 hb2 (3 + 14 * k) t (mT t) s s)) (fun iw _ => L' - (intOf iw).toNat)
  case atStart => exact ⟨0, rfl, by omega, HV5⟩
  case round =>
    obtain ⟨k, rfl, hk, HG⟩ := hrel
    obtain ⟨t, s, hV⟩ := HG.out
    clear HG HV5
    have xc := hV.xc
    by_cases hlt : k < L'
    · have hlt' : (k : Int) < (L' : Int) := by omega
      obtain ⟨lb, off, ha, hlb, o0, o1, o2, o3, o4, o5, o6, o7⟩ := (HO.out.below hV.bel).at hlt
      subst ha
      have HR : Hid (Rng (Q k).2.1) := (HO.out.1 k hlt).1
      have hbx := box2 wr (Q k).2.2.1
      have hx : X < wr.heap.size := hV.sz
      generalize (Q k).2.1 = kk at *
      generalize (Q k).2.2.1 = v0 at *
      generalize hvb : wr.heap.size = vb0 at *
      unfold vb at hbx
      obtain ⟨wa, hwa⟩ : ∃ wa, wr.alloc (.cells #[.int .i64 v0.1, .int .i64 v0.2.1, .string v0.2.2] 33) = wa := ⟨_, rfl⟩
      have hsa : wa.heap.size = vb0 + 1 := by rw [← hwa, ← hvb]; simp
      have hba := Bx.made wr v0
      unfold vb at hba
      rw [hwa] at hbx hba
      rw [hvb] at hba
      obtain ⟨wb, hwb⟩ : ∃ wb, wa.alloc (.cells #[.int .i64 v0.1, .int .i64 v0.2.1, .string v0.2.2] 33) = wb := ⟨_, rfl⟩
      rw [hwb] at hbx
      have hszb : wb.heap.size = vb0 + 2 := by rw [← hwb]; simp [hsa]
      have HVb : Hid (V2 (fun g => g ≤ X ∨ (wr.heap.size ≤ g ∧ g < wb.heap.size)) W wb X (.slice (some ⟨lb, off, none⟩) L' cap) T S hb T2 S2 hb2 (3 + 14 * k) t (mT t) s s) := hV.news (hvb.symm ▸ hbx.2.2)
      rw [hvb, hszb] at HVb
      obtain ⟨Qz, hQz⟩ : ∃ Qz : Nat → Prop, (fun g => g ≤ X ∨ (vb0 ≤ g ∧ g < vb0 + 2)) = Qz := ⟨_, rfl⟩
      rw [hQz] at HVb
      have HQz : Hid (Qz vb0 ∧ Qz (vb0 + 1)) := by rw [← hQz]; exact ⟨.inr ⟨by omega, by omega⟩, .inr ⟨by omega, by omega⟩⟩
      have HX1 : Hid (X < vb0) := hx
      have HXb : Hid (Bx wb vb0 v0 ∧ R3 wb (vb0 + 1) v0) := ⟨hbx.1, hbx.2.1⟩
      have HLb : Hid (∀ wx, Keep Qz wb wx → lb < X ∧ wx.cell? ⟨lb, off + k * 8 + 1, none⟩ = some (.int .i64 kk.1) ∧ wx.cell? ⟨lb, off + k * 8 + 2, none⟩ = some (.int .i64 kk.2.1) ∧ wx.cell? ⟨lb, off + k * 8 + 3, none⟩ = some (.string kk.2.2)) := fun wx q => by
        have hl1 : lb < X := by have := HX.out; omega
        have e1 := hbx.2.2.block lb (by omega)
        have e2 := q.block lb (by omega) (HVb.out.lo lb (by omega))
        refine ⟨hl1, ?_, ?_, ?_⟩ <;> rw [World.cell?_of_block (w := wb) e2, World.cell?_of_block (w := wr) e1] <;> assumption
      have a0 := hba.c0
      have a1 := hba.c1
      have a2 := hba.c2
      have d0 := hbx.1.c0
      have d1 := hbx.1.c1
      have d2 := hbx.1.c2
      have CK := fun W => rcheck_any v0.1 v0.2.1 v0.2.2 W
      rw [chk_of] at CK
      unfold vl vb at CK
      have bk := b1 wb (.cells #[.int .i64 v0.1, .int .i64 v0.2.1, .string v0.2.2] 33)
      obtain ⟨wk, hwk⟩ : ∃ wk, wb.alloc (.cells #[.int .i64 v0.1, .int .i64 v0.2.1, .string v0.2.2] 33) = wk := ⟨_, rfl⟩
      have CKb := CK wb
      rw [hwk] at bk CKb
      have HBk : Hid (Below wb.heap.size wb wk) := bk
      have dk0 := (hbx.1.below bk).c0
      clear hV hbx hba hx CK bk hQz
      by_cases hf : fm v0 = true
      · rw [if_pos hf] at CKb
        by_cases hv0 : v0.1 = 0
        · have hb0 : (v0.1 != 0) = false := by simp [hv0]
          have hoo : oo v0 = v0 := by unfold oo; rw [if_neg (fun q => q.2 hv0)]
          clear hv0
          go_wp2_with fail
          refine CKb.mono ?_; rintro e wz ⟨rfl, hwz⟩
          rw [hwz]; clear hwz
          obtain ⟨wz, hwz⟩ : ∃ wz, wz = wk := ⟨_, rfl⟩
          rw [← hwz] at HBk dk0 ⊢
          have HZ : Hid (Bx wz vb0 v0 ∧ Bx wz (vb0 + 1) (oo v0) ∧ V2 Qz W wz X (.slice (some ⟨lb, off, none⟩) L' cap) T S hb T2 S2 hb2 (3 + 14 * k) t (mT t) s s ∧ (Qz vb0 ∧ Qz (vb0 + 1)) ∧ lb < X ∧ wz.cell? ⟨lb, off + k * 8 + 1, none⟩ = some (.int .i64 kk.1) ∧ wz.cell? ⟨lb, off + k * 8 + 2, none⟩ = some (.int .i64 kk.2.1) ∧ wz.cell? ⟨lb, off + k * 8 + 3, none⟩ = some (.string kk.2.2)) := ⟨HXb.out.1.below HBk.out, by rw [hoo]; exact HXb.out.2.bx.below HBk.out, HVb.out.below HBk.out, HQz.out, HLb.out wz (Keep.of HBk.out)⟩
          clear o0 o1 o2 o3 o4 o5 o6 o7 a0 a1 a2 d0 d1 d2 hwa hwb hwk CKb HXb HVb HLb HBk xc hsa hszb hoo hwz hvb
          go_wp2_with fail
          clear dk0
          -- region 15, from the world wz: the boxes hold v0 and oo v0
          have kS : ∀ wx, Keep Qz wz wx → wx.cell? ⟨X, 3, none⟩ = some (.slice (some ⟨lb, off, none⟩) L' cap) ∧ wx.cell? ⟨lb, off + k * 8 + 1, none⟩ = some (.int .i64 kk.1) ∧ wx.cell? ⟨lb, off + k * 8 + 2, none⟩ = some (.int .i64 kk.2.1) ∧ wx.cell? ⟨lb, off + k * 8 + 3, none⟩ = some (.string kk.2.2) ∧ wx.cell? ⟨vb0, 0, none⟩ = some (.int .i64 v0.1) ∧ wx.cell? ⟨vb0, 1, none⟩ = some (.int .i64 v0.2.1) ∧ wx.cell? ⟨vb0, 2, none⟩ = some (.string v0.2.2) ∧ wx.cell? ⟨vb0 + 1, 0, none⟩ = some (.int .i64 (oo v0).1) ∧ wx.cell? ⟨vb0 + 1, 1, none⟩ = some (.int .i64 (oo v0).2.1) ∧ wx.cell? ⟨vb0 + 1, 2, none⟩ = some (.string (oo v0).2.2) := fun wx q => by
            obtain ⟨z1, z2, z3, z4, z5⟩ := HZ.out
            have e1 := q.block X z3.sz (z3.lo X (Nat.le_refl _))
            have e2 := q.block lb (Nat.lt_of_lt_of_le z5.1 (Nat.le_of_lt z3.sz)) (z3.lo lb (Nat.le_of_lt z5.1))
            have y1 := z1.kept q z4.1
            have y2 := z2.kept q z4.2
            exact ⟨by rw [World.cell?_of_block (w := wz) e1]; exact z3.xc, by rw [World.cell?_of_block (w := wz) e2]; exact z5.2.1, by rw [World.cell?_of_block (w := wz) e2]; exact z5.2.2.1, by rw [World.cell?_of_block (w := wz) e2]; exact z5.2.2.2, y1.c0, y1.c1, y1.c2, y2.c0, y2.c1, y2.c2⟩
          have HS : Hid (∀ wx, Keep Qz wz wx → wx.cell? ⟨X, 3, none⟩ = some (.slice (some ⟨lb, off, none⟩) L' cap) ∧ wx.cell? ⟨lb, off + k * 8 + 1, none⟩ = some (.int .i64 kk.1) ∧ wx.cell? ⟨lb, off + k * 8 + 2, none⟩ = some (.int .i64 kk.2.1) ∧ wx.cell? ⟨lb, off + k * 8 + 3, none⟩ = some (.string kk.2.2) ∧ wx.cell? ⟨vb0, 0, none⟩ = some (.int .i64 v0.1) ∧ wx.cell? ⟨vb0, 1, none⟩ = some (.int .i64 v0.2.1) ∧ wx.cell? ⟨vb0, 2, none⟩ = some (.string v0.2.2) ∧ wx.cell? ⟨vb0 + 1, 0, none⟩ = some (.int .i64 (oo v0).1) ∧ wx.cell? ⟨vb0 + 1, 1, none⟩ = some (.int .i64 (oo v0).2.1) ∧ wx.cell? ⟨vb0 + 1, 2, none⟩ = some (.string (oo v0).2.2)) := kS
          obtain ⟨i1, i2, i3, i4, i5, i6, i7, i8, i9, i10⟩ := kS wz (Keep.refl _ _)
          have HK0 : Hid (Keep Qz wz wz.drew) := (Keep.refl _ _).drew
          have C1 := (HZ.out.2.2.1.below (bdrew1 wz)).set (by omega) kk v0 HR.out
          obtain ⟨r, hr⟩ : ∃ r, tset t s kk v0 = r := ⟨_, rfl⟩
          have hr2 : tset (mT t) s kk (oo v0) = (mT r.1, r.2.1, r.2.2) := by rw [tset_oo, hr]
          rw [hr] at C1
          have HC2 : Hid (∀ w1, V2 Qz W w1 X (.slice (some ⟨lb, off, none⟩) L' cap) T S hb T2 S2 hb2 (3 + 14 * k + 7) r.1 (mT t) r.2.1 s → Calls Try.prog 11 #[tp T2, vv kk, vv (oo v0)] w1 fun e w2 => e = .returned (.int .i64 r.2.2) ∧ V2 Qz W w2 X (.slice (some ⟨lb, off, none⟩) L' cap) T S hb T2 S2 hb2 (3 + 14 * k + 7 + 7) r.1 (mT r.1) r.2.1 r.2.1 ∧ Keep Qz w1 w2) := fun w1 q => by
            refine (q.swap.set (by omega) kk (oo v0) HR.out).mono ?_
            rintro e w2 ⟨rfl, q1, q2⟩
            rw [hr2] at q1 ⊢
            exact ⟨rfl, q1.swap, q2⟩
          have Ne := neq42 (r.1.p.n : Nat) (r.1.p.z : Nat) (r.1.p.g.f : Nat) r.1.hint (r.1.p.n : Nat) (r.1.p.z : Nat) (r.1.p.g.f : Nat) r.1.hint
          simp only [and_self, decide_true, Bool.not_true] at Ne
          unfold sv at Ne
          have g42 : Try.prog.eqGuardType Try.prog.depth 41 = false := by kernel_rfl
          have hne1 : (r.2.2 != r.2.2) = false := by simp
          have hne2 : (r.1.pr != r.1.pr) = false := by simp
          have HST : Hid (∀ w1, V2 Qz W w1 X (.slice (some ⟨lb, off, none⟩) L' cap) T S hb T2 S2 hb2 (3 + 14 * k + 7 + 7) r.1 (mT r.1) r.2.1 r.2.1 → (Calls Try.prog 12 #[.pointer (some ⟨T, 0, none⟩)] w1 fun e w' => e = .returned (.agg #[.int .i64 (r.1.p.n : Nat), .int .i64 (r.1.p.z : Nat), .int .i64 (r.1.p.g.f : Nat), .int .i64 r.1.hint]) ∧ Below w1.heap.size w1 w') ∧ (Calls Try.prog 12 #[.pointer (some ⟨T2, 0, none⟩)] w1 fun e w' => e = .returned (.agg #[.int .i64 (r.1.p.n : Nat), .int .i64 (r.1.p.z : Nat), .int .i64 (r.1.p.g.f : Nat), .int .i64 r.1.hint]) ∧ Below w1.heap.size w1 w') ∧ (Calls Try.prog 13 #[.pointer (some ⟨T, 0, none⟩)] w1 fun e w' => e = .returned (.int .i64 r.1.pr) ∧ w' = w1) ∧ (Calls Try.prog 13 #[.pointer (some ⟨T2, 0, none⟩)] w1 fun e w' => e = .returned (.int .i64 r.1.pr) ∧ w' = w1)) := fun w1 q => ⟨q.stats, q.swap.stats, q.probes, q.swap.probes⟩
          have HQd : Hid (∀ wx, V2 Qz W wx X (.slice (some ⟨lb, off, none⟩) L' cap) T S hb T2 S2 hb2 (3 + 14 * k + 7 + 7) r.1 (mT r.1) r.2.1 r.2.1 → V2 (fun g => g ≤ X) W wx X (.slice (some ⟨lb, off, none⟩) L' cap) T S hb T2 S2 hb2 (3 + 14 * (k + 1)) r.1 (mT r.1) r.2.1 r.2.1) := fun wx q => (q.sub (fun g hg => q.lo g hg) (fun g hg => hg)).more (by omega)
          unfold vv vl tp at C1
          clear hr hr2 HR
          go_upto_region 15 with fail
          go_cut [110] from 55 to 110 (fun bw wx => bw = .bool false ∧ Hid (∃ t s, V2 (fun g => g ≤ X) W wx X (.slice (some ⟨lb, off, none⟩) L' cap) T S hb T2 S2 hb2 (3 + 14 * (k + 1)) t (mT t) s s))
          case first =>
            go_region_held3 (fun w' => w'.cell? ⟨X, 3, none⟩ = some (.slice (some ⟨lb, off, none⟩) L' cap) ∧ w'.cell? ⟨lb, off + k * 8 + 1, none⟩ = some (.int .i64 kk.1) ∧ w'.cell? ⟨lb, off + k * 8 + 2, none⟩ = some (.int .i64 kk.2.1) ∧ w'.cell? ⟨lb, off + k * 8 + 3, none⟩ = some (.string kk.2.2) ∧ w'.cell? ⟨vb0, 0, none⟩ = some (.int .i64 v0.1) ∧ w'.cell? ⟨vb0, 1, none⟩ = some (.int .i64 v0.2.1) ∧ w'.cell? ⟨vb0, 2, none⟩ = some (.string v0.2.2) ∧ w'.cell? ⟨vb0 + 1, 0, none⟩ = some (.int .i64 (oo v0).1) ∧ w'.cell? ⟨vb0 + 1, 1, none⟩ = some (.int .i64 (oo v0).2.1) ∧ w'.cell? ⟨vb0 + 1, 2, none⟩ = some (.string (oo v0).2.2)) (exact HS.out _ (by first | exact HK0.out | exact HK1.out | exact HK2.out | exact HK3.out | exact HK4.out)) (first
              | (go_at_call_of 11 (Value.pointer (some ⟨T, 0, none⟩)); refine C1.mono ?_; rintro e w1 ⟨rfl, q1, q2⟩; have C2 := HC2.out w1 q1; have HK1 : Hid (Keep Qz wz w1) := HK0.out.trans q2; unfold vv vl tp at C2; clear q1 q2)
              | (go_at_call_of 11 (Value.pointer (some ⟨T2, 0, none⟩)); refine C2.mono ?_; rintro e w2 ⟨rfl, q1, q2⟩; have HV2 : Hid (V2 Qz W w2 X (.slice (some ⟨lb, off, none⟩) L' cap) T S hb T2 S2 hb2 (3 + 14 * k + 7 + 7) r.1 (mT r.1) r.2.1 r.2.1) := q1; have C3 := (HST.out w2 q1).1; have HK2 : Hid (Keep Qz wz w2) := HK1.out.trans q2; clear q1 q2)
              | (go_at_call_of 12 (Value.pointer (some ⟨T, 0, none⟩)); refine C3.mono ?_; rintro e w3 ⟨rfl, b3⟩; have q3 := HV2.out.below b3; have HV3 : Hid (V2 Qz W w3 X (.slice (some ⟨lb, off, none⟩) L' cap) T S hb T2 S2 hb2 (3 + 14 * k + 7 + 7) r.1 (mT r.1) r.2.1 r.2.1) := q3; have C4 := (HST.out w3 q3).2.1; have HK3 : Hid (Keep Qz wz w3) := HK2.out.trans (Keep.of b3); clear b3 q3)
              | (go_at_call_of 12 (Value.pointer (some ⟨T2, 0, none⟩)); refine C4.mono ?_; rintro e w4 ⟨rfl, b4⟩; have q4 := HV3.out.below b4; have HV4 : Hid (V2 Qz W w4 X (.slice (some ⟨lb, off, none⟩) L' cap) T S hb T2 S2 hb2 (3 + 14 * k + 7 + 7) r.1 (mT r.1) r.2.1 r.2.1) := q4; have C5 := (HST.out w4 q4).2.2.1; have C6 := (HST.out w4 q4).2.2.2; have HK4 : Hid (Keep Qz wz w4) := HK3.out.trans (Keep.of b4); clear b4 q4)
              | (go_at_call_of 13 (Value.pointer (some ⟨T, 0, none⟩)); refine C5.mono ?_; rintro e w5 ⟨rfl, hw5⟩; rw [hw5]; clear hw5)
              | (go_at_call_of 13 (Value.pointer (some ⟨T2, 0, none⟩)); refine C6.mono ?_; rintro e w6 ⟨rfl, hw6⟩; rw [hw6]; clear hw6))
            all_goals
              go_wp2_with fail
              go_meet
              exact ⟨rfl, ⟨_, _, HQd.out _ HV4.out⟩⟩
          case rest =>
            obtain ⟨rfl, HX5⟩ := hcut
            clear C1 i1 i2 i3 i4 i5 i6 i7 i8 i9 i10
            go_wp2_with fail
            go_round
            case rel =>
              exact ⟨k + 1, by go_num, by omega, HX5⟩
            case measure => simp [intOf]; omega
        · have hb0 : (v0.1 != 0) = true := by simpa using hv0
          have hoo : oo v0 = ot := by unfold oo; rw [if_pos ⟨hf, hv0⟩]
          have CS := mkS ⟨#[111, 116, 104, 101, 114]⟩ wk
          unfold vl at CS
          clear hv0
          go_wp2_with fail
          refine CKb.mono ?_; rintro e wz ⟨rfl, hwz⟩
          rw [hwz]; clear hwz
          go_wp2_with fail
          refine CS.mono ?_; rintro e wy ⟨rfl, hby⟩
          have hB : Below wb.heap.size wb wy := bthen HBk.out HBk.out.size hby
          have r3 := HXb.out.2.below hB
          have f0 := r3.bx.c0
          have f1 := r3.bx.c1
          have f2 := r3.bx.c2
          have ff := r3.fz
          have r4 := r3.set (oo v0)
          have k3 : Keep (fun g => g ≠ vb0 + 1) wy (set3 wy (vb0 + 1) (oo v0)) := (Keep.refl _ wy).set3 (fun q => q rfl) _
          have hz := (HVb.out.below hB).set3 HQz.out.2 (by have := HX1.out; omega) (oo v0)
          have hbx1 := (HXb.out.1.below hB).kept k3 (by show vb0 ≠ vb0 + 1; omega)
          have hl := HLb.out wy (Keep.of hB)
          obtain ⟨wz, hwz⟩ : ∃ wz, set3 wy (vb0 + 1) (oo v0) = wz := ⟨_, rfl⟩
          have e1 : wz.heap[lb]? = wy.heap[lb]? := by rw [← hwz]; exact k3.block lb (by have := hB.size; have := HX1.out; have := hl.1; omega) (by have := HX1.out; have := hl.1; show lb ≠ vb0 + 1; omega)
          rw [hwz] at r4 hz hbx1
          have HZ : Hid (Bx wz vb0 v0 ∧ Bx wz (vb0 + 1) (oo v0) ∧ V2 Qz W wz X (.slice (some ⟨lb, off, none⟩) L' cap) T S hb T2 S2 hb2 (3 + 14 * k) t (mT t) s s ∧ (Qz vb0 ∧ Qz (vb0 + 1)) ∧ lb < X ∧ wz.cell? ⟨lb, off + k * 8 + 1, none⟩ = some (.int .i64 kk.1) ∧ wz.cell? ⟨lb, off + k * 8 + 2, none⟩ = some (.int .i64 kk.2.1) ∧ wz.cell? ⟨lb, off + k * 8 + 3, none⟩ = some (.string kk.2.2)) := ⟨hbx1, r4.bx, hz, HQz.out, hl.1, by rw [World.cell?_of_block (w := wy) e1]; exact hl.2.1, by rw [World.cell?_of_block (w := wy) e1]; exact hl.2.2.1, by rw [World.cell?_of_block (w := wy) e1]; exact hl.2.2.2⟩
          rw [hoo] at hwz
          unfold set3 ot at hwz
          clear o0 o1 o2 o3 o4 o5 o6 o7 a0 a1 a2 d0 d1 d2 dk0 hwa hwb hwk CKb HXb HVb HLb HBk xc hsa hszb hvb hby hB r3 r4 k3 hz hbx1 hl e1 CS
          go_wp2_with fail
          clear f0 f1 f2 ff hwz hoo
          -- region 15, from the world wz: the boxes hold v0 and oo v0
          have kS : ∀ wx, Keep Qz wz wx → wx.cell? ⟨X, 3, none⟩ = some (.slice (some ⟨lb, off, none⟩) L' cap) ∧ wx.cell? ⟨lb, off + k * 8 + 1, none⟩ = some (.int .i64 kk.1) ∧ wx.cell? ⟨lb, off + k * 8 + 2, none⟩ = some (.int .i64 kk.2.1) ∧ wx.cell? ⟨lb, off + k * 8 + 3, none⟩ = some (.string kk.2.2) ∧ wx.cell? ⟨vb0, 0, none⟩ = some (.int .i64 v0.1) ∧ wx.cell? ⟨vb0, 1, none⟩ = some (.int .i64 v0.2.1) ∧ wx.cell? ⟨vb0, 2, none⟩ = some (.string v0.2.2) ∧ wx.cell? ⟨vb0 + 1, 0, none⟩ = some (.int .i64 (oo v0).1) ∧ wx.cell? ⟨vb0 + 1, 1, none⟩ = some (.int .i64 (oo v0).2.1) ∧ wx.cell? ⟨vb0 + 1, 2, none⟩ = some (.string (oo v0).2.2) := fun wx q => by
            obtain ⟨z1, z2, z3, z4, z5⟩ := HZ.out
            have e1 := q.block X z3.sz (z3.lo X (Nat.le_refl _))
            have e2 := q.block lb (Nat.lt_of_lt_of_le z5.1 (Nat.le_of_lt z3.sz)) (z3.lo lb (Nat.le_of_lt z5.1))
            have y1 := z1.kept q z4.1
            have y2 := z2.kept q z4.2
            exact ⟨by rw [World.cell?_of_block (w := wz) e1]; exact z3.xc, by rw [World.cell?_of_block (w := wz) e2]; exact z5.2.1, by rw [World.cell?_of_block (w := wz) e2]; exact z5.2.2.1, by rw [World.cell?_of_block (w := wz) e2]; exact z5.2.2.2, y1.c0, y1.c1, y1.c2, y2.c0, y2.c1, y2.c2⟩
          have HS : Hid (∀ wx, Keep Qz wz wx → wx.cell? ⟨X, 3, none⟩ = some (.slice (some ⟨lb, off, none⟩) L' cap) ∧ wx.cell? ⟨lb, off + k * 8 + 1, none⟩ = some (.int .i64 kk.1) ∧ wx.cell? ⟨lb, off + k * 8 + 2, none⟩ = some (.int .i64 kk.2.1) ∧ wx.cell? ⟨lb, off + k * 8 + 3, none⟩ = some (.string kk.2.2) ∧ wx.cell? ⟨vb0, 0, none⟩ = some (.int .i64 v0.1) ∧ wx.cell? ⟨vb0, 1, none⟩ = some (.int .i64 v0.2.1) ∧ wx.cell? ⟨vb0, 2, none⟩ = some (.string v0.2.2) ∧ wx.cell? ⟨vb0 + 1, 0, none⟩ = some (.int .i64 (oo v0).1) ∧ wx.cell? ⟨vb0 + 1, 1, none⟩ = some (.int .i64 (oo v0).2.1) ∧ wx.cell? ⟨vb0 + 1, 2, none⟩ = some (.string (oo v0).2.2)) := kS
          obtain ⟨i1, i2, i3, i4, i5, i6, i7, i8, i9, i10⟩ := kS wz (Keep.refl _ _)
          have HK0 : Hid (Keep Qz wz wz.drew) := (Keep.refl _ _).drew
          have C1 := (HZ.out.2.2.1.below (bdrew1 wz)).set (by omega) kk v0 HR.out
          obtain ⟨r, hr⟩ : ∃ r, tset t s kk v0 = r := ⟨_, rfl⟩
          have hr2 : tset (mT t) s kk (oo v0) = (mT r.1, r.2.1, r.2.2) := by rw [tset_oo, hr]
          rw [hr] at C1
          have HC2 : Hid (∀ w1, V2 Qz W w1 X (.slice (some ⟨lb, off, none⟩) L' cap) T S hb T2 S2 hb2 (3 + 14 * k + 7) r.1 (mT t) r.2.1 s → Calls Try.prog 11 #[tp T2, vv kk, vv (oo v0)] w1 fun e w2 => e = .returned (.int .i64 r.2.2) ∧ V2 Qz W w2 X (.slice (some ⟨lb, off, none⟩) L' cap) T S hb T2 S2 hb2 (3 + 14 * k + 7 + 7) r.1 (mT r.1) r.2.1 r.2.1 ∧ Keep Qz w1 w2) := fun w1 q => by
            refine (q.swap.set (by omega) kk (oo v0) HR.out).mono ?_
            rintro e w2 ⟨rfl, q1, q2⟩
            rw [hr2] at q1 ⊢
            exact ⟨rfl, q1.swap, q2⟩
          have Ne := neq42 (r.1.p.n : Nat) (r.1.p.z : Nat) (r.1.p.g.f : Nat) r.1.hint (r.1.p.n : Nat) (r.1.p.z : Nat) (r.1.p.g.f : Nat) r.1.hint
          simp only [and_self, decide_true, Bool.not_true] at Ne
          unfold sv at Ne
          have g42 : Try.prog.eqGuardType Try.prog.depth 41 = false := by kernel_rfl
          have hne1 : (r.2.2 != r.2.2) = false := by simp
          have hne2 : (r.1.pr != r.1.pr) = false := by simp
          have HST : Hid (∀ w1, V2 Qz W w1 X (.slice (some ⟨lb, off, none⟩) L' cap) T S hb T2 S2 hb2 (3 + 14 * k + 7 + 7) r.1 (mT r.1) r.2.1 r.2.1 → (Calls Try.prog 12 #[.pointer (some ⟨T, 0, none⟩)] w1 fun e w' => e = .returned (.agg #[.int .i64 (r.1.p.n : Nat), .int .i64 (r.1.p.z : Nat), .int .i64 (r.1.p.g.f : Nat), .int .i64 r.1.hint]) ∧ Below w1.heap.size w1 w') ∧ (Calls Try.prog 12 #[.pointer (some ⟨T2, 0, none⟩)] w1 fun e w' => e = .returned (.agg #[.int .i64 (r.1.p.n : Nat), .int .i64 (r.1.p.z : Nat), .int .i64 (r.1.p.g.f : Nat), .int .i64 r.1.hint]) ∧ Below w1.heap.size w1 w') ∧ (Calls Try.prog 13 #[.pointer (some ⟨T, 0, none⟩)] w1 fun e w' => e = .returned (.int .i64 r.1.pr) ∧ w' = w1) ∧ (Calls Try.prog 13 #[.pointer (some ⟨T2, 0, none⟩)] w1 fun e w' => e = .returned (.int .i64 r.1.pr) ∧ w' = w1)) := fun w1 q => ⟨q.stats, q.swap.stats, q.probes, q.swap.probes⟩
          have HQd : Hid (∀ wx, V2 Qz W wx X (.slice (some ⟨lb, off, none⟩) L' cap) T S hb T2 S2 hb2 (3 + 14 * k + 7 + 7) r.1 (mT r.1) r.2.1 r.2.1 → V2 (fun g => g ≤ X) W wx X (.slice (some ⟨lb, off, none⟩) L' cap) T S hb T2 S2 hb2 (3 + 14 * (k + 1)) r.1 (mT r.1) r.2.1 r.2.1) := fun wx q => (q.sub (fun g hg => q.lo g hg) (fun g hg => hg)).more (by omega)
          unfold vv vl tp at C1
          clear hr hr2 HR
          go_upto_region 15 with fail
          go_cut [110] from 55 to 110 (fun bw wx => bw = .bool false ∧ Hid (∃ t s, V2 (fun g => g ≤ X) W wx X (.slice (some ⟨lb, off, none⟩) L' cap) T S hb T2 S2 hb2 (3 + 14 * (k + 1)) t (mT t) s s))
          case first =>
            go_region_held3 (fun w' => w'.cell? ⟨X, 3, none⟩ = some (.slice (some ⟨lb, off, none⟩) L' cap) ∧ w'.cell? ⟨lb, off + k * 8 + 1, none⟩ = some (.int .i64 kk.1) ∧ w'.cell? ⟨lb, off + k * 8 + 2, none⟩ = some (.int .i64 kk.2.1) ∧ w'.cell? ⟨lb, off + k * 8 + 3, none⟩ = some (.string kk.2.2) ∧ w'.cell? ⟨vb0, 0, none⟩ = some (.int .i64 v0.1) ∧ w'.cell? ⟨vb0, 1, none⟩ = some (.int .i64 v0.2.1) ∧ w'.cell? ⟨vb0, 2, none⟩ = some (.string v0.2.2) ∧ w'.cell? ⟨vb0 + 1, 0, none⟩ = some (.int .i64 (oo v0).1) ∧ w'.cell? ⟨vb0 + 1, 1, none⟩ = some (.int .i64 (oo v0).2.1) ∧ w'.cell? ⟨vb0 + 1, 2, none⟩ = some (.string (oo v0).2.2)) (exact HS.out _ (by first | exact HK0.out | exact HK1.out | exact HK2.out | exact HK3.out | exact HK4.out)) (first
              | (go_at_call_of 11 (Value.pointer (some ⟨T, 0, none⟩)); refine C1.mono ?_; rintro e w1 ⟨rfl, q1, q2⟩; have C2 := HC2.out w1 q1; have HK1 : Hid (Keep Qz wz w1) := HK0.out.trans q2; unfold vv vl tp at C2; clear q1 q2)
              | (go_at_call_of 11 (Value.pointer (some ⟨T2, 0, none⟩)); refine C2.mono ?_; rintro e w2 ⟨rfl, q1, q2⟩; have HV2 : Hid (V2 Qz W w2 X (.slice (some ⟨lb, off, none⟩) L' cap) T S hb T2 S2 hb2 (3 + 14 * k + 7 + 7) r.1 (mT r.1) r.2.1 r.2.1) := q1; have C3 := (HST.out w2 q1).1; have HK2 : Hid (Keep Qz wz w2) := HK1.out.trans q2; clear q1 q2)
              | (go_at_call_of 12 (Value.pointer (some ⟨T, 0, none⟩)); refine C3.mono ?_; rintro e w3 ⟨rfl, b3⟩; have q3 := HV2.out.below b3; have HV3 : Hid (V2 Qz W w3 X (.slice (some ⟨lb, off, none⟩) L' cap) T S hb T2 S2 hb2 (3 + 14 * k + 7 + 7) r.1 (mT r.1) r.2.1 r.2.1) := q3; have C4 := (HST.out w3 q3).2.1; have HK3 : Hid (Keep Qz wz w3) := HK2.out.trans (Keep.of b3); clear b3 q3)
              | (go_at_call_of 12 (Value.pointer (some ⟨T2, 0, none⟩)); refine C4.mono ?_; rintro e w4 ⟨rfl, b4⟩; have q4 := HV3.out.below b4; have HV4 : Hid (V2 Qz W w4 X (.slice (some ⟨lb, off, none⟩) L' cap) T S hb T2 S2 hb2 (3 + 14 * k + 7 + 7) r.1 (mT r.1) r.2.1 r.2.1) := q4; have C5 := (HST.out w4 q4).2.2.1; have C6 := (HST.out w4 q4).2.2.2; have HK4 : Hid (Keep Qz wz w4) := HK3.out.trans (Keep.of b4); clear b4 q4)
              | (go_at_call_of 13 (Value.pointer (some ⟨T, 0, none⟩)); refine C5.mono ?_; rintro e w5 ⟨rfl, hw5⟩; rw [hw5]; clear hw5)
              | (go_at_call_of 13 (Value.pointer (some ⟨T2, 0, none⟩)); refine C6.mono ?_; rintro e w6 ⟨rfl, hw6⟩; rw [hw6]; clear hw6))
            all_goals
              go_wp2_with fail
              go_meet
              exact ⟨rfl, ⟨_, _, HQd.out _ HV4.out⟩⟩
          case rest =>
            obtain ⟨rfl, HX5⟩ := hcut
            clear C1 i1 i2 i3 i4 i5 i6 i7 i8 i9 i10
            go_wp2_with fail
            go_round
            case rel =>
              exact ⟨k + 1, by go_num, by omega, HX5⟩
            case measure => simp [intOf]; omega
      · rw [if_neg hf] at CKb
        have hoo : oo v0 = v0 := by unfold oo; rw [if_neg (fun q => hf q.1)]
        go_wp2_with fail
        refine CKb.mono ?_; rintro e wz ⟨rfl, hwz⟩
        rw [hwz]; clear hwz
        obtain ⟨wz, hwz⟩ : ∃ wz, wz = wk := ⟨_, rfl⟩
        rw [← hwz] at HBk ⊢
        have HZ : Hid (Bx wz vb0 v0 ∧ Bx wz (vb0 + 1) (oo v0) ∧ V2 Qz W wz X (.slice (some ⟨lb, off, none⟩) L' cap) T S hb T2 S2 hb2 (3 + 14 * k) t (mT t) s s ∧ (Qz vb0 ∧ Qz (vb0 + 1)) ∧ lb < X ∧ wz.cell? ⟨lb, off + k * 8 + 1, none⟩ = some (.int .i64 kk.1) ∧ wz.cell? ⟨lb, off + k * 8 + 2, none⟩ = some (.int .i64 kk.2.1) ∧ wz.cell? ⟨lb, off + k * 8 + 3, none⟩ = some (.string kk.2.2)) := ⟨HXb.out.1.below HBk.out, by rw [hoo]; exact HXb.out.2.bx.below HBk.out, HVb.out.below HBk.out, HQz.out, HLb.out wz (Keep.of HBk.out)⟩
        clear o0 o1 o2 o3 o4 o5 o6 o7 a0 a1 a2 d0 d1 d2 dk0 hwa hwb hwk CKb HXb HVb HLb HBk xc hsa hszb hoo hwz hvb
        go_wp2_with fail
        -- region 15, from the world wz: the boxes hold v0 and oo v0
        have kS : ∀ wx, Keep Qz wz wx → wx.cell? ⟨X, 3, none⟩ = some (.slice (some ⟨lb, off, none⟩) L' cap) ∧ wx.cell? ⟨lb, off + k * 8 + 1, none⟩ = some (.int .i64 kk.1) ∧ wx.cell? ⟨lb, off + k * 8 + 2, none⟩ = some (.int .i64 kk.2.1) ∧ wx.cell? ⟨lb, off + k * 8 + 3, none⟩ = some (.string kk.2.2) ∧ wx.cell? ⟨vb0, 0, none⟩ = some (.int .i64 v0.1) ∧ wx.cell? ⟨vb0, 1, none⟩ = some (.int .i64 v0.2.1) ∧ wx.cell? ⟨vb0, 2, none⟩ = some (.string v0.2.2) ∧ wx.cell? ⟨vb0 + 1, 0, none⟩ = some (.int .i64 (oo v0).1) ∧ wx.cell? ⟨vb0 + 1, 1, none⟩ = some (.int .i64 (oo v0).2.1) ∧ wx.cell? ⟨vb0 + 1, 2, none⟩ = some (.string (oo v0).2.2) := fun wx q => by
          obtain ⟨z1, z2, z3, z4, z5⟩ := HZ.out
          have e1 := q.block X z3.sz (z3.lo X (Nat.le_refl _))
          have e2 := q.block lb (Nat.lt_of_lt_of_le z5.1 (Nat.le_of_lt z3.sz)) (z3.lo lb (Nat.le_of_lt z5.1))
          have y1 := z1.kept q z4.1
          have y2 := z2.kept q z4.2
          exact ⟨by rw [World.cell?_of_block (w := wz) e1]; exact z3.xc, by rw [World.cell?_of_block (w := wz) e2]; exact z5.2.1, by rw [World.cell?_of_block (w := wz) e2]; exact z5.2.2.1, by rw [World.cell?_of_block (w := wz) e2]; exact z5.2.2.2, y1.c0, y1.c1, y1.c2, y2.c0, y2.c1, y2.c2⟩
        have HS : Hid (∀ wx, Keep Qz wz wx → wx.cell? ⟨X, 3, none⟩ = some (.slice (some ⟨lb, off, none⟩) L' cap) ∧ wx.cell? ⟨lb, off + k * 8 + 1, none⟩ = some (.int .i64 kk.1) ∧ wx.cell? ⟨lb, off + k * 8 + 2, none⟩ = some (.int .i64 kk.2.1) ∧ wx.cell? ⟨lb, off + k * 8 + 3, none⟩ = some (.string kk.2.2) ∧ wx.cell? ⟨vb0, 0, none⟩ = some (.int .i64 v0.1) ∧ wx.cell? ⟨vb0, 1, none⟩ = some (.int .i64 v0.2.1) ∧ wx.cell? ⟨vb0, 2, none⟩ = some (.string v0.2.2) ∧ wx.cell? ⟨vb0 + 1, 0, none⟩ = some (.int .i64 (oo v0).1) ∧ wx.cell? ⟨vb0 + 1, 1, none⟩ = some (.int .i64 (oo v0).2.1) ∧ wx.cell? ⟨vb0 + 1, 2, none⟩ = some (.string (oo v0).2.2)) := kS
        obtain ⟨i1, i2, i3, i4, i5, i6, i7, i8, i9, i10⟩ := kS wz (Keep.refl _ _)
        have HK0 : Hid (Keep Qz wz wz.drew) := (Keep.refl _ _).drew
        have C1 := (HZ.out.2.2.1.below (bdrew1 wz)).set (by omega) kk v0 HR.out
        obtain ⟨r, hr⟩ : ∃ r, tset t s kk v0 = r := ⟨_, rfl⟩
        have hr2 : tset (mT t) s kk (oo v0) = (mT r.1, r.2.1, r.2.2) := by rw [tset_oo, hr]
        rw [hr] at C1
        have HC2 : Hid (∀ w1, V2 Qz W w1 X (.slice (some ⟨lb, off, none⟩) L' cap) T S hb T2 S2 hb2 (3 + 14 * k + 7) r.1 (mT t) r.2.1 s → Calls Try.prog 11 #[tp T2, vv kk, vv (oo v0)] w1 fun e w2 => e = .returned (.int .i64 r.2.2) ∧ V2 Qz W w2 X (.slice (some ⟨lb, off, none⟩) L' cap) T S hb T2 S2 hb2 (3 + 14 * k + 7 + 7) r.1 (mT r.1) r.2.1 r.2.1 ∧ Keep Qz w1 w2) := fun w1 q => by
          refine (q.swap.set (by omega) kk (oo v0) HR.out).mono ?_
          rintro e w2 ⟨rfl, q1, q2⟩
          rw [hr2] at q1 ⊢
          exact ⟨rfl, q1.swap, q2⟩
        have Ne := neq42 (r.1.p.n : Nat) (r.1.p.z : Nat) (r.1.p.g.f : Nat) r.1.hint (r.1.p.n : Nat) (r.1.p.z : Nat) (r.1.p.g.f : Nat) r.1.hint
        simp only [and_self, decide_true, Bool.not_true] at Ne
        unfold sv at Ne
        have g42 : Try.prog.eqGuardType Try.prog.depth 41 = false := by kernel_rfl
        have hne1 : (r.2.2 != r.2.2) = false := by simp
        have hne2 : (r.1.pr != r.1.pr) = false := by simp
        have HST : Hid (∀ w1, V2 Qz W w1 X (.slice (some ⟨lb, off, none⟩) L' cap) T S hb T2 S2 hb2 (3 + 14 * k + 7 + 7) r.1 (mT r.1) r.2.1 r.2.1 → (Calls Try.prog 12 #[.pointer (some ⟨T, 0, none⟩)] w1 fun e w' => e = .returned (.agg #[.int .i64 (r.1.p.n : Nat), .int .i64 (r.1.p.z : Nat), .int .i64 (r.1.p.g.f : Nat), .int .i64 r.1.hint]) ∧ Below w1.heap.size w1 w') ∧ (Calls Try.prog 12 #[.pointer (some ⟨T2, 0, none⟩)] w1 fun e w' => e = .returned (.agg #[.int .i64 (r.1.p.n : Nat), .int .i64 (r.1.p.z : Nat), .int .i64 (r.1.p.g.f : Nat), .int .i64 r.1.hint]) ∧ Below w1.heap.size w1 w') ∧ (Calls Try.prog 13 #[.pointer (some ⟨T, 0, none⟩)] w1 fun e w' => e = .returned (.int .i64 r.1.pr) ∧ w' = w1) ∧ (Calls Try.prog 13 #[.pointer (some ⟨T2, 0, none⟩)] w1 fun e w' => e = .returned (.int .i64 r.1.pr) ∧ w' = w1)) := fun w1 q => ⟨q.stats, q.swap.stats, q.probes, q.swap.probes⟩
        have HQd : Hid (∀ wx, V2 Qz W wx X (.slice (some ⟨lb, off, none⟩) L' cap) T S hb T2 S2 hb2 (3 + 14 * k + 7 + 7) r.1 (mT r.1) r.2.1 r.2.1 → V2 (fun g => g ≤ X) W wx X (.slice (some ⟨lb, off, none⟩) L' cap) T S hb T2 S2 hb2 (3 + 14 * (k + 1)) r.1 (mT r.1) r.2.1 r.2.1) := fun wx q => (q.sub (fun g hg => q.lo g hg) (fun g hg => hg)).more (by omega)
        unfold vv vl tp at C1
        clear hr hr2 HR
        go_upto_region 15 with fail
        go_cut [110] from 55 to 110 (fun bw wx => bw = .bool false ∧ Hid (∃ t s, V2 (fun g => g ≤ X) W wx X (.slice (some ⟨lb, off, none⟩) L' cap) T S hb T2 S2 hb2 (3 + 14 * (k + 1)) t (mT t) s s))
        case first =>
          go_region_held3 (fun w' => w'.cell? ⟨X, 3, none⟩ = some (.slice (some ⟨lb, off, none⟩) L' cap) ∧ w'.cell? ⟨lb, off + k * 8 + 1, none⟩ = some (.int .i64 kk.1) ∧ w'.cell? ⟨lb, off + k * 8 + 2, none⟩ = some (.int .i64 kk.2.1) ∧ w'.cell? ⟨lb, off + k * 8 + 3, none⟩ = some (.string kk.2.2) ∧ w'.cell? ⟨vb0, 0, none⟩ = some (.int .i64 v0.1) ∧ w'.cell? ⟨vb0, 1, none⟩ = some (.int .i64 v0.2.1) ∧ w'.cell? ⟨vb0, 2, none⟩ = some (.string v0.2.2) ∧ w'.cell? ⟨vb0 + 1, 0, none⟩ = some (.int .i64 (oo v0).1) ∧ w'.cell? ⟨vb0 + 1, 1, none⟩ = some (.int .i64 (oo v0).2.1) ∧ w'.cell? ⟨vb0 + 1, 2, none⟩ = some (.string (oo v0).2.2)) (exact HS.out _ (by first | exact HK0.out | exact HK1.out | exact HK2.out | exact HK3.out | exact HK4.out)) (first
            | (go_at_call_of 11 (Value.pointer (some ⟨T, 0, none⟩)); refine C1.mono ?_; rintro e w1 ⟨rfl, q1, q2⟩; have C2 := HC2.out w1 q1; have HK1 : Hid (Keep Qz wz w1) := HK0.out.trans q2; unfold vv vl tp at C2; clear q1 q2)
            | (go_at_call_of 11 (Value.pointer (some ⟨T2, 0, none⟩)); refine C2.mono ?_; rintro e w2 ⟨rfl, q1, q2⟩; have HV2 : Hid (V2 Qz W w2 X (.slice (some ⟨lb, off, none⟩) L' cap) T S hb T2 S2 hb2 (3 + 14 * k + 7 + 7) r.1 (mT r.1) r.2.1 r.2.1) := q1; have C3 := (HST.out w2 q1).1; have HK2 : Hid (Keep Qz wz w2) := HK1.out.trans q2; clear q1 q2)
            | (go_at_call_of 12 (Value.pointer (some ⟨T, 0, none⟩)); refine C3.mono ?_; rintro e w3 ⟨rfl, b3⟩; have q3 := HV2.out.below b3; have HV3 : Hid (V2 Qz W w3 X (.slice (some ⟨lb, off, none⟩) L' cap) T S hb T2 S2 hb2 (3 + 14 * k + 7 + 7) r.1 (mT r.1) r.2.1 r.2.1) := q3; have C4 := (HST.out w3 q3).2.1; have HK3 : Hid (Keep Qz wz w3) := HK2.out.trans (Keep.of b3); clear b3 q3)
            | (go_at_call_of 12 (Value.pointer (some ⟨T2, 0, none⟩)); refine C4.mono ?_; rintro e w4 ⟨rfl, b4⟩; have q4 := HV3.out.below b4; have HV4 : Hid (V2 Qz W w4 X (.slice (some ⟨lb, off, none⟩) L' cap) T S hb T2 S2 hb2 (3 + 14 * k + 7 + 7) r.1 (mT r.1) r.2.1 r.2.1) := q4; have C5 := (HST.out w4 q4).2.2.1; have C6 := (HST.out w4 q4).2.2.2; have HK4 : Hid (Keep Qz wz w4) := HK3.out.trans (Keep.of b4); clear b4 q4)
            | (go_at_call_of 13 (Value.pointer (some ⟨T, 0, none⟩)); refine C5.mono ?_; rintro e w5 ⟨rfl, hw5⟩; rw [hw5]; clear hw5)
            | (go_at_call_of 13 (Value.pointer (some ⟨T2, 0, none⟩)); refine C6.mono ?_; rintro e w6 ⟨rfl, hw6⟩; rw [hw6]; clear hw6))
          all_goals
            go_wp2_with fail
            go_meet
            exact ⟨rfl, ⟨_, _, HQd.out _ HV4.out⟩⟩
        case rest =>
          obtain ⟨rfl, HX5⟩ := hcut
          clear C1 i1 i2 i3 i4 i5 i6 i7 i8 i9 i10
          go_wp2_with fail
          go_round
          case rel =>
            exact ⟨k + 1, by go_num, by omega, HX5⟩
          case measure => simp [intOf]; omega
    · have hA : ¬ (k : Int) < (L' : Int) := by omega
      have CD := hV.dump
      have HVr : Hid (V2 (fun g => g ≤ X) W wr X (.slice a L' cap) T S hb T2 S2 hb2 (3 + 14 * k) t (mT t) s s) := hV
      unfold tp at CD
      clear hV
      go_wp2_with fail
      refine CD.mono ?_; rintro e w6 ⟨v6, g6, c6, rfl, hD6⟩
      have hV6 := HVr.out.below hD6.bel
      have CD2 := hV6.swap.dump
      have HD6 : Hid (Dt wr w6 v6 g6 c6 t.p ∧ Below X W w6) := ⟨hD6, hV6.bel⟩
      have HX6 : Hid (X < w6.heap.size) := hV6.sz
      unfold tp at CD2
      clear hV6 hD6 CD xc
      go_wp2_with fail
      refine CD2.mono ?_; rintro e w7 ⟨v7, g7, c7, rfl, hD7⟩
      have HQ7 : Hid (Rc w7 g6 t.p.z (nf (pl t.p.z) t.p.g) ∧ Rc w7 g7 t.p.z (nf (pl t.p.z) (mG t.p.g)) ∧ Below X W w7) := ⟨HD6.out.1.rc.block (hD7.bel.block g6 HD6.out.1.lt), hD7.rc, bthen HD6.out.2 (Nat.le_of_lt HX6.out) hD7.bel⟩
      have hzz : ((mT t).p.z : Nat) = t.p.z := rfl
      rw [hzz]
      have hz6 : t.p.z ≤ 65536 := by
        obtain ⟨_, _, ⟨_, _, _, h1⟩, _⟩ := HVr.out.tt
        exact h1.ti.rt.le
      clear hD7 CD2 HD6 HX6 HVr hzz
      generalize t.p.z = zz at *
      have hnz : ((zz : Int) != (zz : Int)) = false := by simp
      go_wp2_with fail
      obtain ⟨wo, hwo⟩ : ∃ wo, wo = wr := ⟨_, rfl⟩
      clear hwo
      go_loopw [18] (fun iw wr => ∃ j : Nat, iw = .int .i64 (j : Nat) ∧ j ≤ zz ∧ Hid (Rc wr g6 zz (nf (pl zz) t.p.g) ∧ Rc wr g7 zz (nf (pl zz) (mG t.p.g)) ∧ Below X W wr)) (fun iw _ => zz - (intOf iw).toNat)
      case atStart => exact ⟨0, rfl, by omega, HQ7⟩
      case round =>
        obtain ⟨j, rfl, hj, HR7⟩ := hrel
        clear HQ7
        by_cases hjz : j < zz
        · have hjz' : (j : Int) < (zz : Int) := by omega
          have u0 : wr.cell? ⟨g6, j * 7, none⟩ = some (.int .i64 (t.p.g.K j).1) := HR7.out.1.c j hjz 0 (by omega)
          have u1 : wr.cell? ⟨g6, j * 7 + 1, none⟩ = some (.int .i64 (t.p.g.K j).2.1) := HR7.out.1.c j hjz 1 (by omega)
          have u2' : wr.cell? ⟨g6, j * 7 + 2, none⟩ = some (.string (t.p.g.K j).2.2) := HR7.out.1.c j hjz 2 (by omega)
          have u6 : wr.cell? ⟨g6, j * 7 + 6, none⟩ = some (.int .i64 (link (pl zz) t.p.g j)) := HR7.out.1.c j hjz 6 (by omega)
          have y0 : wr.cell? ⟨g7, j * 7, none⟩ = some (.int .i64 (t.p.g.K j).1) := HR7.out.2.1.c j hjz 0 (by omega)
          have y1 : wr.cell? ⟨g7, j * 7 + 1, none⟩ = some (.int .i64 (t.p.g.K j).2.1) := HR7.out.2.1.c j hjz 1 (by omega)
          have y2 : wr.cell? ⟨g7, j * 7 + 2, none⟩ = some (.string (t.p.g.K j).2.2) := HR7.out.2.1.c j hjz 2 (by omega)
          have y6 : wr.cell? ⟨g7, j * 7 + 6, none⟩ = some (.int .i64 (link (pl zz) t.p.g j)) := HR7.out.2.1.c j hjz 6 (by omega)
          generalize t.p.g.K j = kj at *
          generalize link (pl zz) t.p.g j = lj at *
          have Ne := neq32 kj.1 kj.2.1 kj.1 kj.2.1 kj.2.2 kj.2.2
          simp only [decide_true, Bool.not_true] at Ne
          unfold vl at Ne
          have g32 := guard32
          have hll : (lj != lj) = false := by simp
          go_wp2_with fail
          go_quiet (fail)
          go_wp2_with fail
          go_round
          case rel => exact ⟨j + 1, by go_num, by omega, ⟨HR7.out.1.block (by simp), HR7.out.2.1.block (by simp), HR7.out.2.2.trans (bdrew _ _ _)⟩⟩
          case measure => simp [intOf]; omega
        · have hA2 : ¬ (j : Int) < (zz : Int) := by omega
          go_wp2_with fail
          go_ret
          exact ⟨rfl, HR7.out.2.2⟩
end Go.Proofs.Ytonopchpnhninab
