/- The walk of SortingAsks. -/
import Derived.Test.YtcaaaoehipcloaaGreatCg44
import Derived.Test.YtcaaaoehipcloaaGreatCg45
import Derived.Test.YtcaaaoehipcloaaGreatCg31
import Derived.Test.YtcaaaoehipcloaaGreatCg30
import Derived.Test.YtcaaaoehipcloaaGreatCg43
import Derived.Test.YtcaaaoehipcloaaGreatCg23
namespace Go.Proofs.YtcaaaoehipcloaaGreat
open Go.RowKit

@[go_sem] theorem vf0 (k n : Int) (s : ByteArray) (W : World) : (Instr.field 34 (.agg #[.int .i64 k, .int .i64 n, .string s]) 0).run Tryz.prog W = .ok (.int .i64 k) W := by kernel_rfl
set_option maxRecDepth 20000 in
set_option maxHeartbeats 8000000 in
theorem asks_walk {w : World} (hfix : ∀ W : World, Calls Tryz.prog 4 #[] W fun e w' => e = .returned (.bool true) ∧ Below W.heap.size W w') {av aa : Option Addr} {cv ca L La : Nat} {F : Nat → V} {An : Nat → Bool} (hv : Vin w av L F) (hb : Bin w aa La An) (hL : L ≤ 9223372036854775807) (hLa : La ≤ 9223372036854775807) (nv : Int) :
    Calls Tryz.prog 3 #[.agg #[.slice av L cv, .int .i64 nv, .slice aa La ca]] w fun e w' => e = .returned (.bool true) ∧ Below w.heap.size w w' := by
  have B0 := b1 w (.cells #[.slice av L cv, .int .i64 nv, .slice aa La ca] 25)
  have c0 : (w.alloc (.cells #[.slice av L cv, .int .i64 nv, .slice aa La ca] 25)).heap[w.heap.size]? = some (.cells #[.slice av L cv, .int .i64 nv, .slice aa La ca] 25) := (MapKept.heap_alloc w _).1
  have hs0 : (w.alloc (.cells #[.slice av L cv, .int .i64 nv, .slice aa La ca] 25)).heap.size = w.heap.size + 1 := by simp
  obtain ⟨W0, hW0⟩ : ∃ W0, w.alloc (.cells #[.slice av L cv, .int .i64 nv, .slice aa La ca] 25) = W0 := ⟨_, rfl⟩
  rw [hW0] at B0 c0 hs0
  have HX : Hid (∀ Wq, Below W0.heap.size W0 Wq → Wq.cell? ⟨w.heap.size, 0, none⟩ = some (.slice av L cv) ∧ Wq.cell? ⟨w.heap.size, 1, none⟩ = some (.int .i64 nv) ∧ Wq.cell? ⟨w.heap.size, 2, none⟩ = some (.slice aa La ca)) := fun Wq kq => by
    have := kq.block w.heap.size (by omega)
    simp only [World.cell?, this, c0]
    exact ⟨rfl, rfl, rfl⟩
  have HV : Hid (Vin W0 av L F ∧ Bin W0 aa La An) := ⟨hv.below B0, hb.below B0⟩
  have HB0 : Hid (Below w.heap.size w W0) := B0
  have HI : Hid (∀ (n : Int) (W : World), Calls Tryz.prog 7 #[.int .i64 n] W fun e w' => e = .returned (.agg #[.int .i64 2, .int .i64 n, .string ⟨#[]⟩]) ∧ Below W.heap.size W w') := fun n W => mkI n W
  have HS : Hid (∀ (s : ByteArray) (W : World), Calls Tryz.prog 8 #[.string s] W fun e w' => e = .returned (.agg #[.int .i64 3, .int .i64 0, .string s]) ∧ Below W.heap.size W w') := fun n W => mkS n W
  have CF := hfix W0
  have g32 := guard32
  have q1 : ∀ W', (binOp .eql 34 (vl 3 0 ⟨#[98, 101, 121, 111, 110, 100]⟩) (vl 3 0 ⟨#[98, 101, 121, 111, 110, 100]⟩)).run Tryz.prog W' = .ok (.bool true) W' := fun W' => by rw [eql32]; simp
  have q2 : ∀ W', (binOp .eql 34 (vl 2 5 ⟨#[]⟩) (vl 2 5 ⟨#[]⟩)).run Tryz.prog W' = .ok (.bool true) W' := fun W' => by rw [eql32]; simp
  unfold vl at q1 q2
  clear hv hb B0 c0 hs0 hfix
  go_enter Tryz.func3, Tryz.ntmps3
  go_wp2_with fail
  refine CF.mono ?_; rintro e w1 ⟨rfl, hb1⟩
  have C9 := begin16v (cap := cv) (HV.out.1.below hb1) hL nv (.slice aa La ca)
  unfold cw3 at C9
  obtain ⟨x0, x1, x2⟩ := HX.out w1 hb1
  have HB1 : Hid (Below W0.heap.size W0 w1) := hb1
  clear CF hb1
  go_wp2_with fail
  refine C9.mono ?_; rintro e w2 ⟨T, S, hb, RT, G, t, s, rfl, bz, bj, bw2⟩
  obtain ⟨n, en, hn⟩ := nlast_nat F (min L 60)
  rw [en]
  have aw := Aw.make (w0 := W0) HB1.out bz bw2 bj (Nat.min_le_right _ _) en ⟨#[101, 108, 115, 101]⟩ (fun j => (rowF F ((j : Int) + 1)).1)
  have hn60 : n ≤ 60 := by omega
  obtain ⟨f, hf⟩ : ∃ f, rowF F = f := ⟨_, rfl⟩
  rw [hf] at aw
  obtain ⟨K, hK⟩ : ∃ K : Nat → Int, (fun j : Nat => (f ((j : Int) + 1)).1) = K := ⟨_, rfl⟩
  rw [hK] at aw
  have HKf : Hid (∀ j : Nat, K j = (f ((j : Int) + 1)).1) := fun j => by rw [← hK]
  have HA : Hid (Aw W0 ⟨#[101, 108, 115, 101]⟩ nil nil T S hb 1000 n f (.slice none 0 0) 0 K w2) := aw
  have wn : IntKind.i64.wrap ((n : Int) + 1) = (n : Int) + 1 := by rw [IntKind.wrap_i64]; omega
  clear bz bj bw2 en hn aw hf hK C9 x0 x1 x2 HB1
  go_wp2_with fail
  refine (HI.out ((n : Int) + 1) _).mono ?_; rintro e w3 ⟨rfl, b3⟩
  have HA3 : Hid (Aw W0 ⟨#[101, 108, 115, 101]⟩ nil nil T S hb 1000 n f (.slice none 0 0) 0 K w3) := HA.out.below b3
  clear b3 HA
  go_wp2_with fail
  refine (HS.out ⟨#[98, 101, 121, 111, 110, 100]⟩ _).mono ?_; rintro e w4 ⟨rfl, b4⟩
  have C4 : Calls Tryz.prog 6 #[.pointer (some ⟨T, 0, none⟩), .agg #[.int .i64 2, .int .i64 ((n : Int) + 1), .string ⟨#[]⟩], .agg #[.int .i64 3, .int .i64 0, .string ⟨#[98, 101, 121, 111, 110, 100]⟩]] w4 fun e w' => e = .returned (.int .i64 0) ∧ Aw W0 ⟨#[101, 108, 115, 101]⟩ (3, 0, ⟨#[98, 101, 121, 111, 110, 100]⟩) nil T S hb (1000 + 7) n f (.slice none 0 0) 0 K w' := (HA3.out.below b4).setb (by omega) hn60 (3, 0, ⟨#[98, 101, 121, 111, 110, 100]⟩) (by kernel_rfl)
  clear b4 HA3
  go_wp2_with fail
  refine C4.mono ?_; rintro e w5 ⟨rfl, a5⟩
  have HA5 : Hid (Aw W0 ⟨#[101, 108, 115, 101]⟩ (3, 0, ⟨#[98, 101, 121, 111, 110, 100]⟩) nil T S hb (1000 + 7) n f (.slice none 0 0) 0 K w5) := a5
  clear C4 a5
  go_wp2_with fail
  refine (HS.out ⟨#[101, 108, 115, 101]⟩ _).mono ?_; rintro e w6 ⟨rfl, b6⟩
  have HA6 : Hid (Aw W0 ⟨#[101, 108, 115, 101]⟩ (3, 0, ⟨#[98, 101, 121, 111, 110, 100]⟩) nil T S hb (1000 + 7) n f (.slice none 0 0) 0 K w6) := HA5.out.below b6
  clear b6 HA5
  go_wp2_with fail
  refine (HI.out 5 _).mono ?_; rintro e w7 ⟨rfl, b7⟩
  have C7 : Calls Tryz.prog 6 #[.pointer (some ⟨T, 0, none⟩), .agg #[.int .i64 3, .int .i64 0, .string ⟨#[101, 108, 115, 101]⟩], .agg #[.int .i64 2, .int .i64 5, .string ⟨#[]⟩]] w7 fun e w' => e = .returned (.int .i64 0) ∧ Aw W0 ⟨#[101, 108, 115, 101]⟩ (3, 0, ⟨#[98, 101, 121, 111, 110, 100]⟩) (kn 5) T S hb (1000 + 7 + 7) n f (.slice none 0 0) 0 K w' := (HA6.out.below b7).seto (by omega) (by kernel_rfl) (kn 5) (fm_kn 5)
  clear b7 HA6
  go_wp2_with fail
  refine C7.mono ?_; rintro e w8 ⟨rfl, a8⟩
  have HA8 : Hid (Aw W0 ⟨#[101, 108, 115, 101]⟩ (3, 0, ⟨#[98, 101, 121, 111, 110, 100]⟩) (kn 5) T S hb (1000 + 7 + 7) n f (.slice (some ⟨w8.heap.size, 0, none⟩) 0 0) 0 K (w8.alloc (.cells #[] 3))) := a8.lit
  clear C7 a8
  go_wp2_with fail
  go_loopw [7, 8] (fun hw iw wr => ∃ (iz : Int) (m : Nat), iw = .int .i64 iz ∧ 1 ≤ iz ∧ iz ≤ (n : Int) + 1 ∧ Hid (iz = (m : Int) + 1) ∧ Hid (Aw W0 ⟨#[101, 108, 115, 101]⟩ (3, 0, ⟨#[98, 101, 121, 111, 110, 100]⟩) (kn 5) T S hb (1014 + m) n f hw m K wr)) (fun _ iw _ => n + 1 - (intOf iw).toNat)
  case atStart => exact ⟨1, 0, rfl, by omega, by omega, rfl, HA8⟩
  case round =>
    obtain ⟨iz, m, rfl, hi1, hi2, HM, HA⟩ := hrel
    obtain ⟨ak, ck, hvk⟩ := HA.out.form
    subst hvk
    clear HA8
    have hm : m ≤ 60 := by have := HM.out; omega
    by_cases hk : iz ≤ (n : Int)
    · have wi : IntKind.i64.wrap (iz + 1) = iz + 1 := by rw [IntKind.wrap_i64]; omega
      go_wp2_with fail
      refine (HI.out iz _).mono ?_; rintro e w9 ⟨rfl, b9⟩
      have C9 := (HA.out.below b9).row (by omega) iz hi1 hk hn60
      clear b9 HA
      go_wp2_with fail
      refine C9.mono ?_; rintro e w10 ⟨rfl, a10⟩
      obtain ⟨ga, gc, w11, hr, a11⟩ := a10.app (x := (f iz).1) (by rw [HKf.out m, ← HM.out]) (by omega)
      have HA11 : Hid (Aw W0 ⟨#[101, 108, 115, 101]⟩ (3, 0, ⟨#[98, 101, 121, 111, 110, 100]⟩) (kn 5) T S hb (1014 + m + 1) n f (.slice ga (m + 1) gc) (m + 1) K w11) := a11
      clear C9 a10 a11
      go_wp2_with (at_builtin; refine wp_app rfl _ _ 37 rfl 37 rfl _ _ rfl rfl hr ?_)
      go_round
      case rel => exact ⟨iz + 1, m + 1, by first | rfl | simp, by omega, by omega, (by have := HM.out; show iz + 1 = ((m + 1 : Nat) : Int) + 1; omega), HA11.out.more (by omega)⟩
      case measure => first | omega | (simp only [intOf]; omega) | (simp; omega)
    · obtain rfl : n = m := by have := HM.out; omega
      obtain ⟨N1, A, b, a, t, s, tt, mx, h3, h4⟩ := HA.out.tw
      have C10 := snew_any tt (n : Int)
      have HW9 : Hid (Below W0.heap.size W0 wr) := HA.out.bl
      have HL9 : Hid (Lkn wr W0.heap.size (.slice ak n ck) n K ∧ ∀ g, (Value.slice ak n ck).ownBlock = some g → N1 g) := ⟨HA.out.lk, h4⟩
      have HN1 : Hid (∀ g, g < W0.heap.size → N1 g) := h3
      have HMx : Hid (Mx ⟨#[101, 108, 115, 101]⟩ (3, 0, ⟨#[98, 101, 121, 111, 110, 100]⟩) (kn 5) n t s f) := mx
      obtain ⟨w9, hw9⟩ : ∃ w9, w9 = wr := ⟨_, rfl⟩
      subst hw9
      clear tt mx h3 h4 HA HM hi1 hi2
      go_wp2_with fail
      refine C10.mono ?_; rintro e w10 ⟨rfl, so, kp⟩
      obtain ⟨B, hB⟩ : ∃ B, w9.heap.size = B := ⟨_, rfl⟩
      rw [hB] at so
      rw [hB]
      obtain ⟨Q1, hQ1⟩ : ∃ Q1, (n : Int) * (n : Int) = Q1 := ⟨_, rfl⟩
      have H0 : Hid (∃ (wv : Value) (A b a : Nat) (d : SD) (g : Int → V), So N1 w10 B wv T A b a S hb (1100 + 31 * 0) d ∧ Mx ⟨#[101, 108, 115, 101]⟩ (3, 0, ⟨#[98, 101, 121, 111, 110, 100]⟩) (kn 5) n d.2.1 d.2.2 g ∧ U.Sc n f g ∧ U.Nx n d.1 g Q1 ∧ d.1.wt.length ≤ 0 ∧ Keep N1 w9 w10) := ⟨_, _, _, _, _, _, so.more (by omega), HMx.out, U.Sc.refl _ _, .inl ⟨rfl, by rw [← hQ1]; exact U.sq_top n⟩, Nat.le_refl _, kp⟩
      clear C10 so kp hB hQ1 HMx
      go_wp2_with fail
      go_loopw [10, 11] (fun lw iw wr => ∃ (i : Nat) (less : Bool), iw = .int .i64 (i : Nat) ∧ lw = .bool less ∧ i ≤ 3000 ∧ Hid (∃ (wv : Value) (A b a : Nat) (d : SD) (g : Int → V), So N1 wr B wv T A b a S hb (1100 + 31 * i) d ∧ Mx ⟨#[101, 108, 115, 101]⟩ (3, 0, ⟨#[98, 101, 121, 111, 110, 100]⟩) (kn 5) n d.2.1 d.2.2 g ∧ U.Sc n f g ∧ U.Nx n d.1 g Q1 ∧ d.1.wt.length ≤ i ∧ Keep N1 w9 wr)) (fun _ iw _ => 3001 - (intOf iw).toNat)
      case atStart => exact ⟨0, false, rfl, rfl, by omega, H0⟩
      case round =>
        obtain ⟨i2, less, rfl, rfl, hi2, HR⟩ := hrel
        obtain ⟨wv, A, b, a, d, gf, so, mx, sc, nx, hw, kp⟩ := HR.out
        clear HR H0
        by_cases hcond : i2 < 3000
        · have hc1 : (i2 : Int) < 3000 := by omega
          obtain ⟨fit, ha⟩ := nx.fit (by omega) (by omega)
          have CN := next_any so (by omega) fit less ha
          have bh := nx.go hd_mx mx less
          have hlen := U.go_len d less
          have hask := U.go_asks d less
          obtain ⟨R, hR⟩ : ∃ R, goR d less = R := ⟨_, rfl⟩
          rw [hR] at CN bh hlen hask
          have HBh : Hid (U.Bh n (Mx ⟨#[101, 108, 115, 101]⟩ (3, 0, ⟨#[98, 101, 121, 111, 110, 100]⟩) (kn 5) n) gf Q1 R ∧ R.1.1.wt.length ≤ i2 + 1 ∧ U.Sc n f gf ∧ (R.2.2.2.1 = true → R.2 = askT (U.qs R.1.1).1 (U.qs R.1.1).2)) := ⟨bh, by omega, sc, hask⟩
          have HK : Hid (Keep N1 w9 wr) := kp
          unfold tol4 at CN
          obtain ⟨tl, htl⟩ : ∃ tl, R.2 = tl := ⟨_, rfl⟩
          rw [htl] at CN
          have HT : Hid (R.2 = tl) := htl
          clear so mx sc nx hw kp fit ha bh hlen hR htl hask
          go_wp2_with fail
          refine CN.mono ?_; rintro e w5 ⟨rfl, ⟨wv5, A5, B5, D5, s5⟩, k5⟩
          obtain ⟨gn, sc5, mt5, hcase⟩ := HBh.out.1
          rw [HT.out] at hcase
          have B6 := b2 w5 (vb tl.1.1 tl.1.2.1 tl.1.2.2) (vb tl.2.1.1 tl.2.1.2.1 tl.2.1.2.2)
          have s6 := s5.below B6
          have X6 := (Bx.made w5 tl.1).below (bw1 (w5.alloc (vb tl.1.1 tl.1.2.1 tl.1.2.2)) (vb tl.2.1.1 tl.2.1.2.1 tl.2.1.2.2))
          have X7 := Bx.made (w5.alloc (vb tl.1.1 tl.1.2.1 tl.1.2.2)) tl.2.1
          have z5 : (w5.alloc (vb tl.1.1 tl.1.2.1 tl.1.2.2)).heap.size = w5.heap.size + 1 := by simp
          rw [z5] at X7
          have HK6 : Hid (Keep N1 w9 ((w5.alloc (vb tl.1.1 tl.1.2.1 tl.1.2.2)).alloc (vb tl.2.1.1 tl.2.1.2.1 tl.2.1.2.2))) := (HK.out.trans k5).trans (Keep.of B6)
          obtain ⟨W6, hW6⟩ : ∃ W6, (w5.alloc (vb tl.1.1 tl.1.2.1 tl.1.2.2)).alloc (vb tl.2.1.1 tl.2.1.2.1 tl.2.1.2.2) = W6 := ⟨_, rfl⟩
          rw [hW6] at s6 HK6 X6 X7
          unfold vb at hW6
          have HW6 : Hid (Below W0.heap.size W0 W6) := HW9.out.trans (HK6.out.below HW9.out.size HN1.out)
          clear B6 s5 k5 CN HK z5
          rcases hcase with ⟨t1, t2, si, lf⟩ | ⟨er, he, e1, e2⟩
          · have HS6 : Hid (So N1 W6 B wv5 T A5 B5 D5 S hb (1100 + 31 * i2 + 31) R.1 ∧ Mx ⟨#[101, 108, 115, 101]⟩ (3, 0, ⟨#[98, 101, 121, 111, 110, 100]⟩) (kn 5) n R.1.2.1 R.1.2.2 gn ∧ U.Sc n f gn ∧ U.Nx n R.1.1 gn Q1 ∧ R.1.1.wt.length ≤ i2 + 1) := ⟨s6, mt5, HBh.out.2.2.1.trans sc5, .inr ⟨si, by omega⟩, HBh.out.2.1⟩
            have wi2 : IntKind.i64.wrap ((i2 : Int) + 1) = (i2 : Int) + 1 := by rw [IntKind.wrap_i64]; omega
            have hq : tl = askT (U.qs R.1.1).1 (U.qs R.1.1).2 := HT.out.symm.trans (HBh.out.2.2.2 (by rw [HT.out]; exact t1))
            obtain ⟨⟨ja, ja1, ja2, ja3⟩, ⟨jb, jb1, jb2, jb3⟩⟩ := si.qs_in
            have hka : ∃ j, j < n ∧ K j = tl.1.1 := by
              obtain ⟨j, j1, j2⟩ := HS6.out.2.2.1.mem ja1 ja2
              exact ⟨j, j1, by rw [HKf.out j, j2, ← ja3, hq]; rfl⟩
            have hkb : ∃ j, j < n ∧ K j = tl.2.1.1 := by
              obtain ⟨j, j1, j2⟩ := HS6.out.2.2.1.mem jb1 jb2
              exact ⟨j, j1, by rw [HKf.out j, j2, ← jb3, hq]; rfl⟩
            have HLk : Hid (Lkn W6 W0.heap.size (.slice ak n ck) n K) := HL9.out.1.keep HK6.out HL9.out.2
            have CK1 := kind_any HLk.out hn60 tl.1.1 hka
            have HCK2 : Hid (∀ Wx, Below W6.heap.size W6 Wx → Calls Tryz.prog 12 #[.slice ak n ck, .int .i64 tl.2.1.1] Wx fun e w' => e = .returned (.bool true) ∧ Below Wx.heap.size Wx w') := fun Wx kx => kind_any (HLk.out.below kx) hn60 tl.2.1.1 hkb
            have HX7 : Hid (Bx W6 (w5.heap.size + 1) tl.2.1) := X7
            have y0 := X6.c0
            have HKK : Hid (∀ less', ∃ (i : Nat) (less : Bool), Value.int .i64 ((i2 : Int) + 1) = .int .i64 (i : Nat) ∧ Value.bool less' = .bool less ∧ i ≤ 3000 ∧ ∀ Wx, Below W6.heap.size W6 Wx → Hid (∃ (wv : Value) (A b a : Nat) (d : SD) (g : Int → V), So N1 Wx B wv T A b a S hb (1100 + 31 * i) d ∧ Mx ⟨#[101, 108, 115, 101]⟩ (3, 0, ⟨#[98, 101, 121, 111, 110, 100]⟩) (kn 5) n d.2.1 d.2.2 g ∧ U.Sc n f g ∧ U.Nx n d.1 g Q1 ∧ d.1.wt.length ≤ i ∧ Keep N1 w9 Wx)) := fun less' => ⟨i2 + 1, less', by simp, rfl, by omega, fun Wx kx => ⟨_, _, _, _, _, _, (HS6.out.1.below kx).more (by omega), HS6.out.2.1, HS6.out.2.2.1, HS6.out.2.2.2.1, HS6.out.2.2.2.2, HK6.out.trans (Keep.of kx)⟩⟩
            obtain ⟨ta, tb, tm, te⟩ := tl
            simp only at t1 t2 hW6 y0 CK1 ⊢
            subst t1
            clear t2 si lf mt5 sc5 s6 hq hka hkb X6 X7 ja3 jb3 HT HBh ja1 ja2 jb1 jb2 HS6 HLk
            go_wp2_with fail
            refine CK1.mono ?_; rintro e w7 ⟨rfl, b7⟩
            have y1 := (HX7.out.below b7).c0
            have CK2 := HCK2.out w7 b7
            have HB7 : Hid (Below W6.heap.size W6 w7) := b7
            try simp only at y1
            try simp only at CK2
            clear CK1 b7 HCK2 y0
            go_wp2_with fail
            refine CK2.mono ?_; rintro e w8 ⟨rfl, b8⟩
            have HB8 : Hid (Below W6.heap.size W6 w8) := bthen HB7.out HB7.out.size b8
            have HW8 : Hid (Below W0.heap.size W0 w8) := HW6.out.trans (HB8.out.mono HW6.out.size)
            obtain ⟨x0, x1, x2⟩ := HX.out w8 HW8.out
            clear CK2 b8 y1 HB7
            by_cases hla : 0 < La
            · have h5 : (0 : Int) < (La : Int) := by omega
              have h6 : ¬ (La : Int) = 0 := by omega
              have hrem : (i2 : Int).tmod (La : Int) = ((i2 % La : Nat) : Int) := by rw [Int.tmod_eq_emod_of_nonneg (by omega)]; simp
              have hidx := Nat.mod_lt i2 hla
              obtain ⟨lb5, off5, rfl, hl5, q5⟩ := (HV.out.2.below HW8.out).at' (i2 % La) hidx
              have wrem : IntKind.i64.wrap ((i2 % La : Nat) : Int) = ((i2 % La : Nat) : Int) := by rw [IntKind.wrap_i64]; omega
              obtain ⟨jx, hjx⟩ : ∃ jx, i2 % La = jx := ⟨_, rfl⟩
              rw [hjx] at hrem hidx q5 wrem
              have h7 : (jx : Int) < (La : Int) := by omega
              have h8 : ¬ (jx : Int) < 0 := by omega
              clear hjx hl5
              go_wp2_with fail
              go_quiet (fail)
              go_wp2
              go_round
              case rel =>
                obtain ⟨i', l', e1, e2, e3, e4⟩ := HKK.out (An jx)
                exact ⟨i', l', by first | exact e1 | simpa using e1, by first | exact e2 | simpa using e2, e3, e4 _ (HB8.out.trans ((bdrN _ _).mono HB8.out.size))⟩
              case measure => first | omega | (simp only [intOf]; omega) | (simp; omega)
            · have h5 : ¬ (0 : Int) < (La : Int) := by omega
              go_wp2_with fail
              go_quiet (fail)
              go_wp2
              go_round
              case rel =>
                obtain ⟨i', l', e1, e2, e3, e4⟩ := HKK.out false
                exact ⟨i', l', by first | exact e1 | simpa using e1, by first | exact e2 | simpa using e2, e3, e4 _ (HB8.out.trans ((bdrN _ _).mono HB8.out.size))⟩
              case measure => first | omega | (simp only [intOf]; omega) | (simp; omega)
          · have HGe : Hid (Ge (Nq N1 B wv5) W6 ⟨#[101, 108, 115, 101]⟩ (3, 0, ⟨#[98, 101, 121, 111, 110, 100]⟩) (kn 5) T S hb (1100 + 31 * i2 + 31) n gn W6) := ⟨⟨_, _, _, _, _, s6.tt, mt5⟩, Keep.refl _ _⟩
            have HE : Hid (∀ w', Keep (Nq N1 B wv5) W6 w' → Below w.heap.size w w') := fun w' kO => bthen HB0.out HB0.out.size (HW6.out.trans (kO.below HW6.out.size (fun g hg => .inl (HN1.out g hg))))
            obtain ⟨ta, tb, tm, te⟩ := tl
            have e3 : tm = false := congrArg (fun z : Tol => z.2.2.1) e2
            simp only at hW6 ⊢
            subst e3
            clear s6 mt5 sc5 HBh HT e1 e2 he X6 X7
            go_wp2_with fail
            refine (HI.out ((n : Int) + 1) _).mono ?_
            rintro e v1 ⟨rfl, c1⟩
            have G1a := HGe.out.below c1
            clear c1 HGe
            have D1 : Calls Tryz.prog 9 #[.pointer (some ⟨T, 0, none⟩), .agg #[.int .i64 2, .int .i64 ((n : Int) + 1), .string ⟨#[]⟩]] v1 fun e w' => e = .returned (.agg #[.int .i64 3, .int .i64 0, .string ⟨#[98, 101, 121, 111, 110, 100]⟩]) ∧ Ge (Nq N1 B wv5) W6 ⟨#[101, 108, 115, 101]⟩ (3, 0, ⟨#[98, 101, 121, 111, 110, 100]⟩) (kn 5) T S hb ((1100 + 31 * i2 + 31) + 1) n gn w' := G1a.get (by omega) (kn ((n : Int) + 1)) (3, 0, ⟨#[98, 101, 121, 111, 110, 100]⟩) (rng_kn (by omega) (by omega)) (fun t s q => q.get1)
            go_wp2_with fail
            refine D1.mono ?_
            clear D1 G1a
            rintro e v2 ⟨rfl, G2⟩
            have HG2 : Hid _ := G2
            clear G2
            go_wp2_with fail
            refine (HS.out ⟨#[98, 101, 121, 111, 110, 100]⟩ _).mono ?_
            rintro e v3 ⟨rfl, c3⟩
            have HG3 : Hid _ := HG2.out.below c3
            clear c3 HG2
            go_wp2_with fail
            refine (HS.out ⟨#[101, 108, 115, 101]⟩ _).mono ?_
            rintro e v4 ⟨rfl, c4⟩
            have G2a := HG3.out.below c4
            clear c4 HG3
            have D2 : Calls Tryz.prog 9 #[.pointer (some ⟨T, 0, none⟩), .agg #[.int .i64 3, .int .i64 0, .string ⟨#[101, 108, 115, 101]⟩]] v4 fun e w' => e = .returned (.agg #[.int .i64 2, .int .i64 5, .string ⟨#[]⟩]) ∧ Ge (Nq N1 B wv5) W6 ⟨#[101, 108, 115, 101]⟩ (3, 0, ⟨#[98, 101, 121, 111, 110, 100]⟩) (kn 5) T S hb ((1100 + 31 * i2 + 31) + 2) n gn w' := G2a.get (by omega) (ke ⟨#[101, 108, 115, 101]⟩) (kn 5) (rng_ke _) (fun t s q => q.get2 (by kernel_rfl))
            go_wp2_with fail
            refine D2.mono ?_
            clear D2 G2a
            rintro e v5 ⟨rfl, G5⟩
            have HG5 : Hid _ := G5
            clear G5
            go_wp2_with fail
            refine (HI.out 5 _).mono ?_
            rintro e v6 ⟨rfl, c6⟩
            have HG6 : Hid _ := HG5.out.below c6
            clear c6 HG5
            go_wp2_with fail
            refine (HI.out 0 _).mono ?_
            rintro e v7 ⟨rfl, c7⟩
            have G3a := HG6.out.below c7
            clear c7 HG6
            have D3 : Calls Tryz.prog 9 #[.pointer (some ⟨T, 0, none⟩), .agg #[.int .i64 2, .int .i64 0, .string ⟨#[]⟩]] v7 fun e w' => e = .returned (.agg #[.int .i64 0, .int .i64 0, .string ⟨#[]⟩]) ∧ Ge (Nq N1 B wv5) W6 ⟨#[101, 108, 115, 101]⟩ (3, 0, ⟨#[98, 101, 121, 111, 110, 100]⟩) (kn 5) T S hb ((1100 + 31 * i2 + 31) + 3) n gn w' := G3a.get (by omega) (kn 0) nil (rng_kn (by omega) (by omega)) (fun t s q => q.get0)
            go_wp2_with fail
            refine D3.mono ?_
            clear D3 G3a
            rintro e v8 ⟨rfl, G8⟩
            have HF := HE.out v8 G8.kp
            clear HE G8
            go_wp2
            go_ret
            exact ⟨rfl, HF⟩

        · have hc1 : ¬ (i2 : Int) < 3000 := by omega
          have HGe : Hid (Ge (Nq N1 B wv) wr ⟨#[101, 108, 115, 101]⟩ (3, 0, ⟨#[98, 101, 121, 111, 110, 100]⟩) (kn 5) T S hb (1100 + 31 * i2) n gf wr) := ⟨⟨_, _, _, _, _, so.tt, mx⟩, Keep.refl _ _⟩
          have HWr : Hid (Below W0.heap.size W0 wr) := HW9.out.trans (kp.below HW9.out.size HN1.out)
          have HE : Hid (∀ w', Keep (Nq N1 B wv) wr w' → Below w.heap.size w w') := fun w' kO => bthen HB0.out HB0.out.size (HWr.out.trans (kO.below HWr.out.size (fun g hg => .inl (HN1.out g hg))))
          clear so mx sc nx hw kp HWr
          go_wp2_with fail
          refine (HI.out ((n : Int) + 1) _).mono ?_
          rintro e v1 ⟨rfl, c1⟩
          have G1a := HGe.out.below c1
          clear c1 HGe
          have D1 : Calls Tryz.prog 9 #[.pointer (some ⟨T, 0, none⟩), .agg #[.int .i64 2, .int .i64 ((n : Int) + 1), .string ⟨#[]⟩]] v1 fun e w' => e = .returned (.agg #[.int .i64 3, .int .i64 0, .string ⟨#[98, 101, 121, 111, 110, 100]⟩]) ∧ Ge (Nq N1 B wv) wr ⟨#[101, 108, 115, 101]⟩ (3, 0, ⟨#[98, 101, 121, 111, 110, 100]⟩) (kn 5) T S hb ((1100 + 31 * i2) + 1) n gf w' := G1a.get (by omega) (kn ((n : Int) + 1)) (3, 0, ⟨#[98, 101, 121, 111, 110, 100]⟩) (rng_kn (by omega) (by omega)) (fun t s q => q.get1)
          go_wp2_with fail
          refine D1.mono ?_
          clear D1 G1a
          rintro e v2 ⟨rfl, G2⟩
          have HG2 : Hid _ := G2
          clear G2
          go_wp2_with fail
          refine (HS.out ⟨#[98, 101, 121, 111, 110, 100]⟩ _).mono ?_
          rintro e v3 ⟨rfl, c3⟩
          have HG3 : Hid _ := HG2.out.below c3
          clear c3 HG2
          go_wp2_with fail
          refine (HS.out ⟨#[101, 108, 115, 101]⟩ _).mono ?_
          rintro e v4 ⟨rfl, c4⟩
          have G2a := HG3.out.below c4
          clear c4 HG3
          have D2 : Calls Tryz.prog 9 #[.pointer (some ⟨T, 0, none⟩), .agg #[.int .i64 3, .int .i64 0, .string ⟨#[101, 108, 115, 101]⟩]] v4 fun e w' => e = .returned (.agg #[.int .i64 2, .int .i64 5, .string ⟨#[]⟩]) ∧ Ge (Nq N1 B wv) wr ⟨#[101, 108, 115, 101]⟩ (3, 0, ⟨#[98, 101, 121, 111, 110, 100]⟩) (kn 5) T S hb ((1100 + 31 * i2) + 2) n gf w' := G2a.get (by omega) (ke ⟨#[101, 108, 115, 101]⟩) (kn 5) (rng_ke _) (fun t s q => q.get2 (by kernel_rfl))
          go_wp2_with fail
          refine D2.mono ?_
          clear D2 G2a
          rintro e v5 ⟨rfl, G5⟩
          have HG5 : Hid _ := G5
          clear G5
          go_wp2_with fail
          refine (HI.out 5 _).mono ?_
          rintro e v6 ⟨rfl, c6⟩
          have HG6 : Hid _ := HG5.out.below c6
          clear c6 HG5
          go_wp2_with fail
          refine (HI.out 0 _).mono ?_
          rintro e v7 ⟨rfl, c7⟩
          have G3a := HG6.out.below c7
          clear c7 HG6
          have D3 : Calls Tryz.prog 9 #[.pointer (some ⟨T, 0, none⟩), .agg #[.int .i64 2, .int .i64 0, .string ⟨#[]⟩]] v7 fun e w' => e = .returned (.agg #[.int .i64 0, .int .i64 0, .string ⟨#[]⟩]) ∧ Ge (Nq N1 B wv) wr ⟨#[101, 108, 115, 101]⟩ (3, 0, ⟨#[98, 101, 121, 111, 110, 100]⟩) (kn 5) T S hb ((1100 + 31 * i2) + 3) n gf w' := G3a.get (by omega) (kn 0) nil (rng_kn (by omega) (by omega)) (fun t s q => q.get0)
          go_wp2_with fail
          refine D3.mono ?_
          clear D3 G3a
          rintro e v8 ⟨rfl, G8⟩
          have HF := HE.out v8 G8.kp
          clear HE G8
          go_wp2
          go_ret
          exact ⟨rfl, HF⟩

end Go.Proofs.YtcaaaoehipcloaaGreat
