/- The walk of TableClears. -/
import Derived.Test.YtonopchpnhninabCg28
import Derived.Deep.RegionHeld3
import Derived.Laws.IdiomStrings
namespace Go.Proofs.Ytonopchpnhninab
open Go.RowKit
theorem Ms.subP {P P' : Nat → Prop} {W w : World} {X : Nat} {xs : Value} {T S hb c : Nat} {t : TS} {s : H.St} {L : Int} (h : Ms P W w X xs T S hb c t s L) (hq : ∀ g, P' g → P g) (hl : ∀ g, g ≤ X → P' g) : Ms P' W w X xs T S hb c t s L := by
  obtain ⟨A, b, a, ht⟩ := h.tt
  exact ⟨⟨A, b, a, ht.sub hq⟩, hl, h.bel, h.xc, h.sz, h.tb⟩
theorem u8_num (n : Nat) (h : n < 26) : ((UInt8.ofNat (97 + n)).toNat : Int) = 97 + (n : Int) := by
  rw [UInt8.toNat_ofNat']
  omega
/-- Three letters in a row, as a text. -/
theorem key_str (w : World) (i : Nat) : ∃ sb : ByteArray, sb.size = 3 ∧ (convert 62 9 (.slice (some ⟨w.heap.size, 0, none⟩) 3 3)).run Try.prog (w.alloc (.cells #[.int .u8 (97 + (i : Int) % 26), .int .u8 (97 + (i : Int) / 26 % 26), .int .u8 (97 + (i : Int) / 676 % 26)] 5)) = .ok (.string sb) (w.alloc (.cells #[.int .u8 (97 + (i : Int) % 26), .int .u8 (97 + (i : Int) / 26 % 26), .int .u8 (97 + (i : Int) / 676 % 26)] 5)) := by
  have h := (MapKept.heap_alloc w (.cells #[.int .u8 (97 + (i : Int) % 26), .int .u8 (97 + (i : Int) / 26 % 26), .int .u8 (97 + (i : Int) / 676 % 26)] 5)).1
  have c0 := cell_of_row h 0
  have c1 := cell_of_row h 1
  have c2 := cell_of_row h 2
  refine ⟨⟨[UInt8.ofNat (97 + i % 26), UInt8.ofNat (97 + i / 26 % 26), UInt8.ofNat (97 + i / 676 % 26)].toArray⟩, rfl, ?_⟩
  refine run_convert_bytes_back _ 62 9 5 ⟨w.heap.size, 0, none⟩ 3 [UInt8.ofNat (97 + i % 26), UInt8.ofNat (97 + i / 26 % 26), UInt8.ofNat (97 + i / 676 % 26)] Try.underlying62 Try.underlying5 Try.underlying9 (fun j hj => ?_)
  have hj3 : j = 0 ∨ j = 1 ∨ j = 2 := by simp at hj; omega
  rcases hj3 with rfl | rfl | rfl
  · show _ = some (Value.int .u8 ((UInt8.ofNat (97 + i % 26)).toNat : Int))
    rw [u8_num _ (by omega)]; exact c0
  · show _ = some (Value.int .u8 ((UInt8.ofNat (97 + i / 26 % 26)).toNat : Int))
    rw [u8_num _ (by omega)]; exact c1
  · show _ = some (Value.int .u8 ((UInt8.ofNat (97 + i / 676 % 26)).toNat : Int))
    rw [u8_num _ (by omega)]; exact c2
theorem key_fm {sb ks : ByteArray} (h : sb.size = 3) (hk : (⟨#[110, 101, 119, 32, 107, 101, 121, 32]⟩ : ByteArray) ++ sb = ks) : fm (3, 0, ks) = true := by
  have hs : ks.size = 11 := by rw [← hk, ByteArray.size_append, h]; rfl
  unfold fm inF
  simp [hs]
set_option maxRecDepth 100000 in
set_option maxHeartbeats 8000000 in
theorem cl_fail (l x y : Int) (a : Option Addr) (L cap : Nat) (hL : L ≤ cap) (W : World) (he : nE (H.newSt 400000) (cN x) (cN y) ≠ 0) :
    Calls Try.prog 5 #[cv l x y (.slice a L cap)] W fun e w' => e = .returned (.bool true) ∧ Below W.heap.size W w' := by
  have CB := fun w => begin_fail 400000 (cN x) (cN y) a (min L 300) cap w (by omega) (by omega) he
  unfold cv at CB
  clear he
  have CF := fun w => fixed_any w
  have CC := fun w => cut_any l x y a L cap hL w
  unfold cv at CC ⊢
  have R0 := R4.made W (.int .i64 l) (.int .i64 x) (.int .i64 y) (.slice a L cap) 24
  have B0 := b1 W (.cells #[.int .i64 l, .int .i64 x, .int .i64 y, .slice a L cap] 24)
  obtain ⟨W0, hW0⟩ : ∃ W0, W.alloc (.cells #[.int .i64 l, .int .i64 x, .int .i64 y, .slice a L cap] 24) = W0 := ⟨_, rfl⟩
  rw [hW0] at R0 B0
  have HR0 : Hid (R4 W0 W.heap.size (.int .i64 l) (.int .i64 x) (.int .i64 y) (.slice a L cap)) := R0
  have HB0 : Hid (Below W.heap.size W W0) := B0
  clear R0 B0
  generalize hX : W.heap.size = X at *
  have HX : Hid (W.heap.size = X) := hX
  go_enter Try.func5, Try.ntmps5
  go_wp2_with fail
  refine (CF _).mono ?_; rintro e w1 ⟨rfl, hb1⟩
  have R1 := HR0.out.below hb1
  have HB1 : Hid (Below X W w1) := bthen HB0.out (Nat.le_of_lt HR0.out.lt) hb1
  have HR1 : Hid (R4 w1 X (.int .i64 l) (.int .i64 x) (.int .i64 y) (.slice a L cap)) := R1
  have c0 := R1.c0
  have c1 := R1.c1
  have c2 := R1.c2
  have c3 := R1.c3
  clear hb1 R1 HR0 HB0 CF hW0
  go_wp2_with fail
  refine (CC _).mono ?_; rintro e w2 ⟨rfl, hb2⟩
  have R2 := HR1.out.below hb2
  have R3 := R2.set (.int .i64 l) (.int .i64 (cN x)) (.int .i64 (cN y)) (.slice a (min L 300) cap)
  have K3 := ((Keep.refl (fun g => g < X) w2).set4 (N := X) (Nat.lt_irrefl X) (.int .i64 l) (.int .i64 (cN x)) (.int .i64 (cN y)) (.slice a (min L 300) cap)).below (N := X) (Nat.le_of_lt R2.lt) (fun g q => q)
  obtain ⟨W3, hW3⟩ : ∃ W3, set4 w2 X (.int .i64 l) (.int .i64 (cN x)) (.int .i64 (cN y)) (.slice a (min L 300) cap) = W3 := ⟨_, rfl⟩
  rw [hW3] at R3 K3
  unfold set4 at hW3
  have HB3 : Hid (Below X W W3) := (bthen HB1.out (Nat.le_of_lt HR1.out.lt) hb2).trans K3
  have HR3 : Hid (R4 W3 X (.int .i64 l) (.int .i64 (cN x)) (.int .i64 (cN y)) (.slice a (min L 300) cap)) := R3
  have rc0 := R2.c0
  have rc1 := R2.c1
  have rc2 := R2.c2
  have rc3 := R2.c3
  have rcf := R2.fz
  have t0 := R3.c0
  have t1 := R3.c1
  have t2 := R3.c2
  have t3 := R3.c3
  clear hb2 R2 R3 K3 HB1 HR1 CC c0 c1 c2 c3
  have tf := HR3.out.fz
  have R4b := HR3.out.set0 (.int .i64 400000)
  have K4 : Keep (fun g => g ≠ X) W3 (W3.setCell ⟨X, 0, none⟩ (.int .i64 400000)) := (Keep.refl (fun g => g ≠ X) W3).set (p := ⟨X, 0, none⟩) (fun q => q rfl) _
  obtain ⟨W4, hW4⟩ : ∃ W4, W3.setCell ⟨X, 0, none⟩ (.int .i64 400000) = W4 := ⟨_, rfl⟩
  rw [hW4] at R4b K4
  have HB4 : Hid (Below X W W4) := HB3.out.trans (K4.below (Nat.le_of_lt HR3.out.lt) (fun g hg => by show g ≠ X; omega))
  have HR4 : Hid (R4 W4 X (.int .i64 400000) (.int .i64 (cN x)) (.int .i64 (cN y)) (.slice a (min L 300) cap)) := R4b
  have b0 := R4b.c0
  have b1' := R4b.c1
  have b2' := R4b.c2
  have b3 := R4b.c3
  clear R4b K4
  go_wp2_with fail
  refine (CB _).mono ?_; rintro e w4 ⟨S, rfl, hb4⟩
  have HB5 : Hid (Below X W w4) := bthen HB4.out (Nat.le_of_lt HR4.out.lt) hb4
  clear hb4
  go_wp2_with fail
  go_ret
  exact ⟨rfl, HB5.out⟩
set_option maxRecDepth 100000 in
set_option maxHeartbeats 8000000 in
theorem cl_ok (l x y : Int) (a : Option Addr) (L cap : Nat) (hL : L ≤ cap) (W : World) (Q : Nat → Int × V × V × Int) (hO : Ops W.heap.size W a L Q) (he : nE (H.newSt 400000) (cN x) (cN y) = 0) :
    Calls Try.prog 5 #[cv l x y (.slice a L cap)] W fun e w' => e = .returned (.bool true) ∧ Below W.heap.size W w' := by
  have CB := fun w => begin_ok 400000 (cN x) (cN y) a (min L 300) cap w (by omega) (by omega) he
  unfold cv tp at CB
  have HO : Hid (Ops W.heap.size W a (min L 300) Q) := hO.cut (Nat.min_le_left _ _)
  clear he hO
  have CF := fun w => fixed_any w
  have CC := fun w => cut_any l x y a L cap hL w
  unfold cv at CC ⊢
  have R0 := R4.made W (.int .i64 l) (.int .i64 x) (.int .i64 y) (.slice a L cap) 24
  have B0 := b1 W (.cells #[.int .i64 l, .int .i64 x, .int .i64 y, .slice a L cap] 24)
  obtain ⟨W0, hW0⟩ : ∃ W0, W.alloc (.cells #[.int .i64 l, .int .i64 x, .int .i64 y, .slice a L cap] 24) = W0 := ⟨_, rfl⟩
  rw [hW0] at R0 B0
  have HR0 : Hid (R4 W0 W.heap.size (.int .i64 l) (.int .i64 x) (.int .i64 y) (.slice a L cap)) := R0
  have HB0 : Hid (Below W.heap.size W W0) := B0
  clear R0 B0
  generalize hX : W.heap.size = X at *
  have HX : Hid (W.heap.size = X) := hX
  go_enter Try.func5, Try.ntmps5
  go_wp2_with fail
  refine (CF _).mono ?_; rintro e w1 ⟨rfl, hb1⟩
  have R1 := HR0.out.below hb1
  have HB1 : Hid (Below X W w1) := bthen HB0.out (Nat.le_of_lt HR0.out.lt) hb1
  have HR1 : Hid (R4 w1 X (.int .i64 l) (.int .i64 x) (.int .i64 y) (.slice a L cap)) := R1
  have c0 := R1.c0
  have c1 := R1.c1
  have c2 := R1.c2
  have c3 := R1.c3
  clear hb1 R1 HR0 HB0 CF hW0
  go_wp2_with fail
  refine (CC _).mono ?_; rintro e w2 ⟨rfl, hb2⟩
  have R2 := HR1.out.below hb2
  have R3 := R2.set (.int .i64 l) (.int .i64 (cN x)) (.int .i64 (cN y)) (.slice a (min L 300) cap)
  have K3 := ((Keep.refl (fun g => g < X) w2).set4 (N := X) (Nat.lt_irrefl X) (.int .i64 l) (.int .i64 (cN x)) (.int .i64 (cN y)) (.slice a (min L 300) cap)).below (N := X) (Nat.le_of_lt R2.lt) (fun g q => q)
  obtain ⟨W3, hW3⟩ : ∃ W3, set4 w2 X (.int .i64 l) (.int .i64 (cN x)) (.int .i64 (cN y)) (.slice a (min L 300) cap) = W3 := ⟨_, rfl⟩
  rw [hW3] at R3 K3
  unfold set4 at hW3
  have HB3 : Hid (Below X W W3) := (bthen HB1.out (Nat.le_of_lt HR1.out.lt) hb2).trans K3
  have HR3 : Hid (R4 W3 X (.int .i64 l) (.int .i64 (cN x)) (.int .i64 (cN y)) (.slice a (min L 300) cap)) := R3
  have rc0 := R2.c0
  have rc1 := R2.c1
  have rc2 := R2.c2
  have rc3 := R2.c3
  have rcf := R2.fz
  have t0 := R3.c0
  have t1 := R3.c1
  have t2 := R3.c2
  have t3 := R3.c3
  clear hb2 R2 R3 K3 HB1 HR1 CC c0 c1 c2 c3
  have tf := HR3.out.fz
  have R4b := HR3.out.set0 (.int .i64 400000)
  have K4 : Keep (fun g => g ≠ X) W3 (W3.setCell ⟨X, 0, none⟩ (.int .i64 400000)) := (Keep.refl (fun g => g ≠ X) W3).set (p := ⟨X, 0, none⟩) (fun q => q rfl) _
  obtain ⟨W4, hW4⟩ : ∃ W4, W3.setCell ⟨X, 0, none⟩ (.int .i64 400000) = W4 := ⟨_, rfl⟩
  rw [hW4] at R4b K4
  have HB4 : Hid (Below X W W4) := HB3.out.trans (K4.below (Nat.le_of_lt HR3.out.lt) (fun g hg => by show g ≠ X; omega))
  have HR4 : Hid (R4 W4 X (.int .i64 400000) (.int .i64 (cN x)) (.int .i64 (cN y)) (.slice a (min L 300) cap)) := R4b
  have b0 := R4b.c0
  have b1' := R4b.c1
  have b2' := R4b.c2
  have b3 := R4b.c3
  clear R4b K4
  go_wp2_with fail
  refine (CB _).mono ?_; rintro e w4 ⟨M, T, A, b, a', S, hb, RT, RA, P0, ka, va, ca, G, n', z, t, rfl, bg, ok, es1, es2⟩
  have hlt3 := HR4.out.lt
  obtain ⟨P, hP⟩ : ∃ P : Nat → Prop, (fun g => g < W4.heap.size) = P := ⟨_, rfl⟩
  obtain ⟨L', hL'⟩ : ∃ L', min L 300 = L' := ⟨_, rfl⟩
  have hL3 : L' ≤ 300 := by omega
  have hLc : L' ≤ cap := by omega
  have HM0 : Hid (∃ t s, Ms P W w4 X (.slice a L' cap) T S hb 3 t s 4 ∧ Sm t 0 ∧ s.lim = 400000) := by
    have hiv := H.Inv.new 400000 (by omega) (by omega)
    have htb : TB t (nS (H.newSt 400000) (cN x) (cN y)) ((H.newSt 400000).live + 4) := ok.tb hiv bg.et es1 es2
    rw [show (H.newSt 400000).live + 4 = 4 from rfl] at htb
    refine ⟨t, _, ⟨⟨A, b, a', bg.tt.sub (fun g q => .inl (by rw [← hP] at q; exact q))⟩, fun g q => by rw [← hP]; exact Nat.lt_of_le_of_lt q hlt3, bthen HB4.out (Nat.le_of_lt hlt3) bg.bel, by rw [← hL']; exact (HR4.out.below bg.bel).c3, Nat.lt_of_lt_of_le hlt3 bg.bel.size, htb⟩, ?_, ?_⟩
    · have h := ok.sm t.sb t.nb
      rw [← bg.et] at h
      exact h
    · rw [ok.lim hiv]; rfl
  rw [hL'] at HO
  clear bg ok hlt3 CB HR4 HB4 HR3 HB3 rc0 rc1 rc2 rc3 rcf t0 t1 t2 t3 hW3 es1 es2 b0 b1' b2' b3 tf hW4 hP
  go_wp2_with fail
  go_loopw [7] (fun iw wr => ∃ k : Nat, iw = .int .i64 (k : Nat) ∧ k ≤ L' ∧ Hid (∃ t s, Ms P W wr X (.slice a L' cap) T S hb (3 + 7 * k) t s 4 ∧ Sm t k ∧ s.lim = 400000)) (fun iw _ => L' - (intOf iw).toNat)
  case atStart => exact ⟨0, rfl, by omega, HM0⟩
  case round =>
    obtain ⟨k, rfl, hk, HG⟩ := hrel
    obtain ⟨t, s, hM, hSm, hlim⟩ := HG.out
    clear HG HM0
    have xc := hM.xc
    by_cases hlt : k < L'
    · have hlt' : (k : Int) < (L' : Int) := by omega
      obtain ⟨lb, off, ha, hlb, o0, o1, o2, o3, o4, o5, o6, o7⟩ := (HO.out.below hM.bel).at hlt
      subst ha
      have hr := (HO.out.1 k hlt).1
      have CS := (hM.below (bdrew1 wr)).set (by omega) (Q k).2.1 (Q k).2.2.1 hr
      have HN : Hid (∀ w', Ms P W w' X (.slice (some ⟨lb, off, none⟩) L' cap) T S hb (3 + 7 * k + 7) (tset t s (Q k).2.1 (Q k).2.2.1).1 (tset t s (Q k).2.1 (Q k).2.2.1).2.1 4 → ∃ t s, Ms P W w' X (.slice (some ⟨lb, off, none⟩) L' cap) T S hb (3 + 7 * (k + 1)) t s 4 ∧ Sm t (k + 1) ∧ s.lim = 400000) := fun w' q =>
        ⟨_, _, q.more (by omega), hSm.set (by omega) hM.ti.1 hr q.ti.1, by rw [(hM.tb.set hM.ti.2 _ _).2]; exact hlim⟩
      unfold vv vl tp at CS
      clear o0 o7 hM hSm hlim hr
      go_upto_region 11 with fail
      go_region_with (go_at_call 11; refine CS.mono ?_; rintro e w5 ⟨rfl, q1, q2⟩; have HX5 : Hid _ := HN.out w5 q1; clear q1 q2)
      all_goals (
        go_wp2_with fail
        go_round
        (case rel => exact ⟨k + 1, by go_num, by omega, HX5⟩)
        (case measure => simp [intOf]; omega))
    · have hA : ¬ (k : Int) < (L' : Int) := by omega
      have CT := hM.stats
      unfold ts sv tp at CT
      have hn2 := hSm.n
      have hz2 := hSm.z
      have HTI : Hid (TI t.p) := hM.ti.1
      have HMr : Hid (Ms P W wr X (.slice a L' cap) T S hb (3 + 7 * k) t s 4) := hM
      have HLim : Hid (s.lim = 400000) := hlim
      clear hM hSm hlim
      obtain ⟨c0, hc0⟩ : ∃ c0, 3 + 7 * k = c0 := ⟨_, rfl⟩
      have hc1 : c0 ≤ 3000 := by omega
      rw [hc0] at HMr
      go_wp2_with fail
      refine CT.mono ?_; rintro e w6 ⟨rfl, hb6⟩
      have hb7 := b1 w6 (.cells #[.int .i64 (t.p.n : Nat), .int .i64 (t.p.z : Nat), .int .i64 (t.p.g.f : Nat), .int .i64 t.hint] 41)
      have r7 := R4.made w6 (.int .i64 (t.p.n : Nat)) (.int .i64 (t.p.z : Nat)) (.int .i64 (t.p.g.f : Nat)) (.int .i64 t.hint) 41
      obtain ⟨w7, hw7⟩ : ∃ w7, w6.alloc (.cells #[.int .i64 (t.p.n : Nat), .int .i64 (t.p.z : Nat), .int .i64 (t.p.g.f : Nat), .int .i64 t.hint] 41) = w7 := ⟨_, rfl⟩
      rw [hw7] at hb7 r7
      have hb67 := bthen hb6 hb6.size hb7
      have hM7 := HMr.out.news hb67
      have hPw : P w6.heap.size ∨ (wr.heap.size ≤ w6.heap.size ∧ w6.heap.size < w7.heap.size) := .inr ⟨hb6.size, r7.lt⟩
      generalize hwbk : w6.heap.size = wbk at *
      obtain ⟨P1, hP1⟩ : ∃ P1 : Nat → Prop, (fun g => P g ∨ (wr.heap.size ≤ g ∧ g < w7.heap.size)) = P1 := ⟨_, rfl⟩
      have hPw1 : P1 wbk := by rw [← hP1]; exact hPw
      rw [hP1] at hM7
      have HM7 : Hid (Ms P1 W w7 X (.slice a L' cap) T S hb (c0 + 7 * 0) { t with p := clrP t.p 0, pr := t.pr } s 4 ∧ R4 w7 wbk (.int .i64 (t.p.n : Nat)) (.int .i64 (t.p.z : Nat)) (.int .i64 (t.p.g.f : Nat)) (.int .i64 t.hint)) := by rw [clr_0]; exact ⟨hM7, r7⟩
      have HPw : Hid (P1 wbk) := hPw1
      clear hP1 hPw hPw1 hM7 hb67 hb7 r7 hb6 HMr CT xc
      go_wp2_with fail
      obtain ⟨wo, hwo⟩ : ∃ wo, wo = wr := ⟨_, rfl⟩
      clear hwo
      go_loopw [9] (fun iw wr => ∃ m : Nat, iw = .int .i64 ((m : Int) + 1) ∧ m ≤ t.p.n + t.p.z ∧ Hid (∃ r, Ms P1 W wr X (.slice a L' cap) T S hb (c0 + 7 * m) { t with p := clrP t.p m, pr := r } s 4 ∧ R4 wr wbk (.int .i64 (t.p.n : Nat)) (.int .i64 (t.p.z : Nat)) (.int .i64 (t.p.g.f : Nat)) (.int .i64 t.hint))) (fun iw _ => t.p.n + t.p.z + 1 - (intOf iw).toNat)
      case atStart => exact ⟨0, rfl, by omega, ⟨_, HM7.out⟩⟩
      case round =>
        obtain ⟨m, rfl, hm, HG⟩ := hrel
        obtain ⟨r, hM, hR⟩ := HG.out
        clear HG HM7
        have CPl := hM.places
        have hnz : ((clrP t.p m).n + (clrP t.p m).z : Nat) = t.p.n + t.p.z := rfl
        rw [show (({ t with p := clrP t.p m, pr := r } : TS).p.n + ({ t with p := clrP t.p m, pr := r } : TS).p.z : Nat) = t.p.n + t.p.z from rfl] at CPl
        have HM : Hid (Ms P1 W wr X (.slice a L' cap) T S hb (c0 + 7 * m) { t with p := clrP t.p m, pr := r } s 4 ∧ R4 wr wbk (.int .i64 (t.p.n : Nat)) (.int .i64 (t.p.z : Nat)) (.int .i64 (t.p.g.f : Nat)) (.int .i64 t.hint)) := ⟨hM, hR⟩
        unfold tp at CPl
        clear hM hR hnz
        by_cases hlt : m < t.p.n + t.p.z
        · have hle : ((m : Int) + 1 ≤ ((t.p.n + t.p.z : Nat) : Int)) := by omega
          have HCP : Hid (∀ w', Below wr.heap.size wr w' → Calls Try.prog 20 #[tp T, .int .i64 ((m : Int) + 1)] w' fun e w'' => e = .returned (.tuple #[vv (pairK t.p m), vv (pairX t.p m)]) ∧ Below w'.heap.size w' w'') := fun w' q => by
            have h := (HM.out.1.below q).pair m hlt
            rw [show pairK ({ t with p := clrP t.p m, pr := r } : TS).p m = pairK t.p m from (clr_pair t.p m).1, show pairX ({ t with p := clrP t.p m, pr := r } : TS).p m = pairX t.p m from (clr_pair t.p m).2] at h
            exact h
          generalize hnz : t.p.n + t.p.z = nz at *
          go_wp2_with fail
          refine CPl.mono ?_; rintro e w8 ⟨rfl, hb8⟩
          have CPr := HCP.out w8 hb8
          have HB8 : Hid (Below wr.heap.size wr w8) := hb8
          unfold vv vl tp at CPr
          clear hb8 CPl HCP
          go_wp2_with fail
          refine CPr.mono ?_; rintro e w9 ⟨rfl, hb9⟩
          have HB9 : Hid (Below wr.heap.size wr w9) := bthen HB8.out HB8.out.size hb9
          have t3 := two3 w9 (pairK t.p m) (pairX t.p m)
          simp only at t3
          obtain ⟨wA, hwA⟩ : ∃ wA, (w9.alloc (.cells #[.int .i64 0, .int .i64 0, .string ⟨#[]⟩] 33)).alloc (.cells #[.int .i64 0, .int .i64 0, .string ⟨#[]⟩] 33) = wA := ⟨_, rfl⟩
          rw [hwA] at t3
          obtain ⟨wB, hwB⟩ : ∃ wB, set3 wA w9.heap.size (pairK t.p m) = wB := ⟨_, rfl⟩
          rw [hwB] at t3
          obtain ⟨wC, hwC⟩ : ∃ wC, set3 wB (w9.heap.size + 1) (pairX t.p m) = wC := ⟨_, rfl⟩
          rw [hwC] at t3
          obtain ⟨e0, e1, e2, e3, e4, e5⟩ := t3
          unfold set3 at hwB hwC
          have HBC : Hid (Below wr.heap.size wr wC) := bthen HB9.out HB9.out.size e5
          have s0 := e0.bx.c0
          have s1 := e0.bx.c1
          have s2 := e0.bx.c2
          have sf := e0.fz
          have s3 := e1.bx.c0
          have s4 := e1.bx.c1
          have s5 := e1.bx.c2
          have sg := e1.fz
          have s6 := e2.bx.c0
          have s7 := e2.bx.c1
          have s8 := e2.bx.c2
          have sh := e2.fz
          have k0 := e3.bx.c0
          have k1 := e3.bx.c1
          have k2 := e3.bx.c2
          have v0 := e4.bx.c0
          clear e0 e1 e2 e3 e4 e5 hb9 HB8 HB9 CPr
          obtain ⟨h1a, hh1a⟩ : ∃ h1a, w9.alloc (.cells #[.int .i64 0, .int .i64 0, .string ⟨#[]⟩] 33) = h1a := ⟨_, rfl⟩
          have hsz1 : h1a.heap.size = w9.heap.size + 1 := by rw [← hh1a]; simp
          rw [hh1a] at hwA
          generalize hkb : w9.heap.size = kb at *
          by_cases hv : (pairX t.p m).1 = 0
          · have hvb : ((pairX t.p m).1 != 0) = false := by simp [hv]
            have HZ : Hid (∃ r, Ms P1 W wC X (.slice a L' cap) T S hb (c0 + 7 * (m + 1)) { t with p := clrP t.p (m + 1), pr := r } s 4 ∧ R4 wC wbk (.int .i64 (t.p.n : Nat)) (.int .i64 (t.p.z : Nat)) (.int .i64 (t.p.g.f : Nat)) (.int .i64 t.hint)) := by
              refine ⟨r, ?_, HM.out.2.below HBC.out⟩
              rw [clr_skip HTI.out (by omega) hv]
              exact (HM.out.1.below HBC.out).more (by omega)
            generalize pairX t.p m = xx at *
            generalize pairK t.p m = kx at *
            clear hv
            go_wp2_with fail
            go_round
            case rel => exact ⟨m + 1, by go_num, by omega, HZ⟩
            case measure => simp [intOf]; omega
          · have hvb : ((pairX t.p m).1 != 0) = true := by simpa using hv
            obtain ⟨hrk, r2, hset⟩ := clr_set HTI.out (by omega) hv { t with p := clrP t.p m, pr := r } s rfl
            have CS := (HM.out.1.below HBC.out).set (by omega) (pairK t.p m) nil hrk
            rw [hset] at CS
            have HZ : Hid (∀ w', Keep P1 wC w' → Ms P1 W w' X (.slice a L' cap) T S hb (c0 + 7 * m + 7) { t with p := clrP t.p (m + 1), pr := r2 } s 4 → ∃ r, Ms P1 W w' X (.slice a L' cap) T S hb (c0 + 7 * (m + 1)) { t with p := clrP t.p (m + 1), pr := r } s 4 ∧ R4 w' wbk (.int .i64 (t.p.n : Nat)) (.int .i64 (t.p.z : Nat)) (.int .i64 (t.p.g.f : Nat)) (.int .i64 t.hint)) := fun w' q1 q2 =>
              ⟨r2, q2.more (by omega), (HM.out.2.below HBC.out).kept q1 HPw.out⟩
            unfold vv vl tp nil at CS
            generalize pairX t.p m = xx at *
            generalize pairK t.p m = kx at *
            clear hv hset hrk
            go_wp2_with fail
            refine CS.mono ?_; rintro e w10 ⟨rfl, q1, q2⟩
            have HZ2 : Hid _ := HZ.out w10 q2 q1
            clear CS HZ q1 q2
            go_wp2_with fail
            go_round
            case rel => exact ⟨m + 1, by go_num, by omega, HZ2⟩
            case measure => simp [intOf]; omega
        · have hA2 : ¬ ((m : Int) + 1 ≤ ((t.p.n + t.p.z : Nat) : Int)) := by omega
          obtain rfl : m = t.p.n + t.p.z := by omega
          obtain ⟨u, hu⟩ : ∃ u : TS, { t with p := clrP t.p (t.p.n + t.p.z), pr := r } = u := ⟨_, rfl⟩
          rw [hu] at HM
          have HU : Hid (u.p.n = t.p.n ∧ u.p.z = t.p.z ∧ u.p.g.f = t.p.g.f ∧ u.hint = t.hint ∧ pres u.p = []) := by rw [← hu]; exact ⟨rfl, rfl, rfl, rfl, clr_pres t.p⟩
          obtain ⟨c2, hc2⟩ : ∃ c2, c0 + 7 * (t.p.n + t.p.z) = c2 := ⟨_, rfl⟩
          have hc3 : c2 ≤ 60000 := by omega
          rw [hc2] at HM
          generalize hnz : t.p.n + t.p.z = nz at *
          go_wp2_with fail
          refine CPl.mono ?_; rintro e w8 ⟨rfl, hb8⟩
          have hM8 := HM.out.1.below hb8
          have hR8 := HM.out.2.below hb8
          have HM8 : Hid (Ms P1 W w8 X (.slice a L' cap) T S hb c2 u s 4 ∧ R4 w8 wbk (.int .i64 (t.p.n : Nat)) (.int .i64 (t.p.z : Nat)) (.int .i64 (t.p.g.f : Nat)) (.int .i64 t.hint)) := ⟨hM8, hR8⟩
          clear hb8 CPl HM hu hc2
          have CT8 := (HM8.out.1.below (bdrew1 w8)).stats
          unfold ts sv tp at CT8
          rw [HU.out.1, HU.out.2.1, HU.out.2.2.1, HU.out.2.2.2.1] at CT8
          have Ne := neq42 (t.p.n : Nat) (t.p.z : Nat) (t.p.g.f : Nat) t.hint (t.p.n : Nat) (t.p.z : Nat) (t.p.g.f : Nat) t.hint
          simp only [and_self, decide_true, Bool.not_true] at Ne
          unfold sv at Ne
          have g42 : Try.prog.eqGuardType Try.prog.depth 41 = false := by kernel_rfl
          have HF : Hid (∀ wx, Below w8.heap.size w8 wx → Ms P1 W wx X (.slice a L' cap) T S hb c2 u s 4 ∧ R4 wx wbk (.int .i64 (t.p.n : Nat)) (.int .i64 (t.p.z : Nat)) (.int .i64 (t.p.g.f : Nat)) (.int .i64 t.hint)) := fun wx q => ⟨HM8.out.1.below q, HM8.out.2.below q⟩
          have HPr : Hid (∀ wx, Below w8.heap.size w8 wx → Calls Try.prog 21 #[.pointer (some ⟨T, 0, none⟩)] wx fun e w' => ∃ pa pc, e = .returned (.slice pa 0 pc) ∧ Below wx.heap.size wx w') := fun wx q => by
            refine ((HM8.out.1.below q).present).mono ?_
            rintro e w' ⟨v, F, rfl, h1, _, h2⟩
            rw [HU.out.2.2.2.2] at h1
            obtain ⟨pa, pc, rfl⟩ := h1.shape
            exact ⟨pa, pc, rfl, h2⟩
          have HS : Hid (∀ wx, (Ms P1 W wx X (.slice a L' cap) T S hb c2 u s 4 ∧ R4 wx wbk (.int .i64 (t.p.n : Nat)) (.int .i64 (t.p.z : Nat)) (.int .i64 (t.p.g.f : Nat)) (.int .i64 t.hint)) → wx.cell? ⟨wbk, 0, none⟩ = some (.int .i64 (t.p.n : Nat)) ∧ wx.cell? ⟨wbk, 1, none⟩ = some (.int .i64 (t.p.z : Nat)) ∧ wx.cell? ⟨wbk, 2, none⟩ = some (.int .i64 (t.p.g.f : Nat)) ∧ wx.cell? ⟨wbk, 3, none⟩ = some (.int .i64 t.hint)) := fun wx q => ⟨q.2.c0, q.2.c1, q.2.c2, q.2.c3⟩
          have HG0 : Hid (Ms P1 W w8.drew X (.slice a L' cap) T S hb c2 u s 4 ∧ R4 w8.drew wbk (.int .i64 (t.p.n : Nat)) (.int .i64 (t.p.z : Nat)) (.int .i64 (t.p.g.f : Nat)) (.int .i64 t.hint)) := HF.out _ (bdrew1 w8)
          have m0 := HM8.out.2.c0
          have m1 := HM8.out.2.c1
          have m2 := HM8.out.2.c2
          have m3 := HM8.out.2.c3
          go_upto_region 19 with fail
          go_cut [88] from 34 to 138 (fun bw wx => bw = .bool false ∧ Hid (Ms P1 W wx X (.slice a L' cap) T S hb c2 u s 4 ∧ R4 wx wbk (.int .i64 (t.p.n : Nat)) (.int .i64 (t.p.z : Nat)) (.int .i64 (t.p.g.f : Nat)) (.int .i64 t.hint)))
          case first =>
            go_region_held3 (fun w' => w'.cell? ⟨wbk, 0, none⟩ = some (.int .i64 (t.p.n : Nat)) ∧ w'.cell? ⟨wbk, 1, none⟩ = some (.int .i64 (t.p.z : Nat)) ∧ w'.cell? ⟨wbk, 2, none⟩ = some (.int .i64 (t.p.g.f : Nat)) ∧ w'.cell? ⟨wbk, 3, none⟩ = some (.int .i64 t.hint)) (exact HS.out _ (by first | exact HG0.out | exact HG1.out | exact HG2.out)) (first
              | (go_at_call 21; refine CP1.mono ?_; rintro e w2a ⟨pa, pc, rfl, hbz⟩; have HG2 : Hid (Ms P1 W w2a X (.slice a L' cap) T S hb c2 u s 4 ∧ R4 w2a wbk (.int .i64 (t.p.n : Nat)) (.int .i64 (t.p.z : Nat)) (.int .i64 (t.p.g.f : Nat)) (.int .i64 t.hint)) := HF.out w2a (bthen HB1.out HB1.out.size hbz); clear hbz)
              | (go_at_call 12; refine CT8.mono ?_; rintro e w1a ⟨rfl, hbz⟩; have hB : Below w8.heap.size w8 w1a := bthen (bdrew1 w8) (Nat.le_refl _) hbz; have HB1 : Hid (Below w8.heap.size w8 w1a) := hB; have HG1 : Hid (Ms P1 W w1a X (.slice a L' cap) T S hb c2 u s 4 ∧ R4 w1a wbk (.int .i64 (t.p.n : Nat)) (.int .i64 (t.p.z : Nat)) (.int .i64 (t.p.g.f : Nat)) (.int .i64 t.hint)) := HF.out w1a hB; have CP1 := HPr.out w1a hB; clear hbz hB))
            all_goals
              go_wp2_with fail
              go_meet
              exact ⟨rfl, HG2⟩
          case rest =>
            obtain ⟨rfl, HX9⟩ := hcut
            have HL0 : Hid (∃ u s, Ms P1 W wc X (.slice a L' cap) T S hb (c2 + 8 * 0) u s 4 ∧ u.p.n = t.p.n ∧ u.p.z = t.p.z ∧ s.lim = 400000 ∧ R4 wc wbk (.int .i64 (t.p.n : Nat)) (.int .i64 (t.p.z : Nat)) (.int .i64 (t.p.g.f : Nat)) (.int .i64 t.hint)) := by
              refine ⟨u, s, HX9.out.1.more (by omega), HU.out.1, HU.out.2.1, HLim.out, HX9.out.2⟩
            clear CT8 HF HPr HS HG0 m0 m1 m2 m3 HM8 HX9 HU HLim Ne
            go_wp2_with fail
            go_loopw [12] (fun iw wr => ∃ i : Nat, iw = .int .i64 (i : Nat) ∧ i ≤ t.p.z + 1 ∧ Hid (∃ u s, Ms P1 W wr X (.slice a L' cap) T S hb (c2 + 8 * i) u s 4 ∧ u.p.n = t.p.n ∧ u.p.z = t.p.z ∧ s.lim = 400000 ∧ R4 wr wbk (.int .i64 (t.p.n : Nat)) (.int .i64 (t.p.z : Nat)) (.int .i64 (t.p.g.f : Nat)) (.int .i64 t.hint))) (fun iw _ => t.p.z + 2 - (intOf iw).toNat)
            case atStart => exact ⟨0, rfl, by omega, HL0⟩
            case round =>
              obtain ⟨i, rfl, hi, HG⟩ := hrel
              obtain ⟨u, s, hM, hun, huz, hlim, hR⟩ := HG.out
              clear HG HL0
              have m1 := hR.c1
              by_cases hle : i ≤ t.p.z
              · have hle' : (i : Int) ≤ (t.p.z : Int) := by omega
                have CF := hM.full
                obtain ⟨al, hal⟩ : ∃ al, decide (∀ i, i < u.p.z → u.p.g.K i ≠ nil) = al := ⟨_, rfl⟩
                rw [hal] at CF
                have HAL : Hid (decide (∀ i, i < u.p.z → u.p.g.K i ≠ nil) = al) := hal
                have HL : Hid (Ms P1 W wr X (.slice a L' cap) T S hb (c2 + 8 * i) u s 4 ∧ u.p.n = t.p.n ∧ u.p.z = t.p.z ∧ s.lim = 400000 ∧ R4 wr wbk (.int .i64 (t.p.n : Nat)) (.int .i64 (t.p.z : Nat)) (.int .i64 (t.p.g.f : Nat)) (.int .i64 t.hint)) := ⟨hM, hun, huz, hlim, hR⟩
                unfold tp at CF
                clear hal hM hun huz hlim hR
                go_wp2_with fail
                refine CF.mono ?_; rintro e w3a ⟨rfl, hb3⟩
                obtain ⟨sb, hsb, hcv⟩ := key_str w3a i
                have hb4 := b1 w3a (.cells #[.int .u8 (97 + (i : Int) % 26), .int .u8 (97 + (i : Int) / 26 % 26), .int .u8 (97 + (i : Int) / 676 % 26)] 5)
                obtain ⟨w4a, hw4a⟩ : ∃ w4a, w3a.alloc (.cells #[.int .u8 (97 + (i : Int) % 26), .int .u8 (97 + (i : Int) / 26 % 26), .int .u8 (97 + (i : Int) / 676 % 26)] 5) = w4a := ⟨_, rfl⟩
                rw [hw4a] at hcv hb4
                obtain ⟨ks, hks⟩ : ∃ ks, (⟨#[110, 101, 119, 32, 107, 101, 121, 32]⟩ : ByteArray) ++ sb = ks := ⟨_, rfl⟩
                have HFk : Hid (fm (3, 0, ks) = true) := key_fm hsb hks
                have HB4 : Hid (Below wr.heap.size wr w4a) := bthen hb3 hb3.size hb4
                have CS := mkS ks w4a
                unfold vl at CS
                clear hb3 hb4 CF
                go_wp2_with fail
                refine CS.mono ?_; rintro e w5a ⟨rfl, hb5⟩
                have hbx := R3.made w5a (3, 0, ks)
                have hb6 := b1 w5a (.cells #[.int .i64 3, .int .i64 0, .string ks] 33)
                unfold vb at hbx
                obtain ⟨w6a, hw6a⟩ : ∃ w6a, w5a.alloc (.cells #[.int .i64 3, .int .i64 0, .string ks] 33) = w6a := ⟨_, rfl⟩
                have hbx2 : Bx w6a w5a.heap.size (3, 0, ks) := hw6a ▸ hbx.bx
                rw [hw6a] at hb6
                have hB6 : Below wr.heap.size wr w6a := bthen (bthen HB4.out HB4.out.size hb5) (by have := HB4.out.size; have := hb5.size; omega) hb6
                have hM6 := HL.out.1.news hB6
                have hP6 : P1 w5a.heap.size ∨ (wr.heap.size ≤ w5a.heap.size ∧ w5a.heap.size < w6a.heap.size) := .inr ⟨by have := HB4.out.size; have := hb5.size; omega, hbx2.lt⟩
                obtain ⟨P2, hP2⟩ : ∃ P2 : Nat → Prop, (fun g => P1 g ∨ (wr.heap.size ≤ g ∧ g < w6a.heap.size)) = P2 := ⟨_, rfl⟩
                rw [hP2] at hM6
                have HP2 : Hid (P2 w5a.heap.size ∧ P2 wbk ∧ ∀ g, P1 g → P2 g) := by rw [← hP2]; exact ⟨hP6, .inl HPw.out, fun g q => .inl q⟩
                have HR6 : Hid (R4 w6a wbk (.int .i64 (t.p.n : Nat)) (.int .i64 (t.p.z : Nat)) (.int .i64 (t.p.g.f : Nat)) (.int .i64 t.hint)) := HL.out.2.2.2.2.below hB6
                have hrk : Rng (3, 0, ks) := by constructor <;> simp
                have CP := hM6.place (by omega) (3, 0, ks) hrk
                generalize hkb : w5a.heap.size = kb at *
                have HLo : Hid (∀ g, g ≤ X → P1 g) := HL.out.1.lo
                have HNZ : Hid (u.p.n = t.p.n ∧ u.p.z = t.p.z ∧ s.lim = 400000 ∧ TI u.p) := ⟨HL.out.2.1, HL.out.2.2.1, HL.out.2.2.2.1, HL.out.1.ti.1⟩
                have HX6 : Hid (Bx w6a kb (3, 0, ks)) := hbx2
                have k0 : w6a.cell? ⟨kb, 0, none⟩ = some (.int .i64 3) := hbx2.c0
                have k1 : w6a.cell? ⟨kb, 1, none⟩ = some (.int .i64 0) := hbx2.c1
                have k2 : w6a.cell? ⟨kb, 2, none⟩ = some (.string ks) := hbx2.c2
                unfold vv vl tp at CP
                clear hbx hbx2 hb5 hb6 hB6 hM6 hP6 hP2 HL HB4 CS hcv hks hw4a m1 hsb
                go_wp2_with fail
                refine CP.mono ?_; rintro e w7a ⟨rfl, hM7, hK7⟩
                obtain ⟨u1, hu1⟩ : ∃ u1 : TS, { u with pr := u.pr + (prd u.p (3, 0, ks) : Nat) } = u1 := ⟨_, rfl⟩
                have hu1p : u1.p = u.p := by rw [← hu1]
                rw [hu1] at hM7
                have HM7 : Hid (Ms P2 W w7a X (.slice a L' cap) T S hb (c2 + 8 * i + 1) u1 s 4) := hM7
                have HR7 : Hid (R4 w7a wbk (.int .i64 (t.p.n : Nat)) (.int .i64 (t.p.z : Nat)) (.int .i64 (t.p.g.f : Nat)) (.int .i64 t.hint)) := HR6.out.kept hK7 HP2.out.2.1
                have HX7 : Hid (Bx w7a kb (3, 0, ks)) := HX6.out.kept hK7 HP2.out.1
                have HU1 : Hid (u1.p = u.p) := hu1p
                clear hu1 hu1p hM7 hK7 CP HR6 HX6 k0 k1 k2 hw6a
                by_cases hp : 0 < plc u.p (3, 0, ks)
                · have HZ : Hid (∃ u s, Ms P1 W w7a X (.slice a L' cap) T S hb (c2 + 8 * (i + 1)) u s 4 ∧ u.p.n = t.p.n ∧ u.p.z = t.p.z ∧ s.lim = 400000 ∧ R4 w7a wbk (.int .i64 (t.p.n : Nat)) (.int .i64 (t.p.z : Nat)) (.int .i64 (t.p.g.f : Nat)) (.int .i64 t.hint)) := ⟨u1, s, (HM7.out.subP HP2.out.2.2 HLo.out).more (by omega), by rw [HU1.out]; exact HNZ.out.1, by rw [HU1.out]; exact HNZ.out.2.1, HNZ.out.2.2.1, HR7.out⟩
                  go_wp2_with fail
                  go_round
                  case rel => exact ⟨i + 1, by go_num, by omega, HZ⟩
                  case measure => simp [intOf]; omega
                · have hp' : decide (0 < plc u.p (3, 0, ks)) = false := by simp [hp]
                  have HTI1 : Hid (TI u1.p) := by show TI u1.p; rw [HU1.out]; exact HNZ.out.2.2.2
                  have hfv : fm (2, (i : Int), ⟨#[]⟩) = true := by unfold fm inF; simp [ByteArray.toList_eq]
                  obtain ⟨r, hr⟩ : ∃ r, tset u1 s (3, 0, ks) (2, (i : Int), ⟨#[]⟩) = r := ⟨_, rfl⟩
                  have HRr : Hid (r.2.2 = 0 ∧ (al = true → Due u1.p (3, 0, ks) (2, (i : Int), ⟨#[]⟩)) ∧ (al = false → r = (one u1 (3, 0, ks) (2, (i : Int), ⟨#[]⟩), s, 0)) ∧ tset u1 s (3, 0, ks) (2, (i : Int), ⟨#[]⟩) = r) := by
                    have hd : al = true → Due u1.p (3, 0, ks) (2, (i : Int), ⟨#[]⟩) := fun q => by
                      rw [q] at HAL
                      refine ⟨by rw [HU1.out]; omega, by rw [HU1.out]; exact of_decide_eq_true HAL.out, by show (2 : Int) ≠ 0; omega, HFk.out, hfv, by show (3 : Int) ≠ 0; omega⟩
                    have hno : al = false → r = (one u1 (3, 0, ks) (2, (i : Int), ⟨#[]⟩), s, 0) := fun q => by
                      rw [q] at HAL
                      rw [← hr]
                      exact set_room HTI1.out hrk HFk.out hfv (by show (3 : Int) ≠ 0; omega) (by rw [HU1.out]; exact of_decide_eq_false HAL.out)
                    refine ⟨?_, hd, hno, hr⟩
                    cases al with
                    | true =>
                      rw [← hr]
                      exact due_ok HTI1.out hrk (hd rfl) HM7.out.tb HM7.out.ti.2 HNZ.out.2.2.1 (by rw [HU1.out, HNZ.out.1]; omega) (by rw [HU1.out, HNZ.out.2.1]; omega)
                    | false => rw [hno rfl]
                  have CI := mkI (i : Int) w7a.drew
                  have HCS : Hid (∀ wx, Below w7a.heap.size w7a wx → Calls Try.prog 11 #[.pointer (some ⟨T, 0, none⟩), .agg #[.int .i64 3, .int .i64 0, .string ks], .agg #[.int .i64 2, .int .i64 (i : Int), .string ⟨#[]⟩]] wx fun e w' => e = .returned (.int .i64 0) ∧ Ms P2 W w' X (.slice a L' cap) T S hb (c2 + 8 * i + 1 + 7) r.1 r.2.1 4 ∧ R4 w' wbk (.int .i64 (t.p.n : Nat)) (.int .i64 (t.p.z : Nat)) (.int .i64 (t.p.g.f : Nat)) (.int .i64 t.hint) ∧ Bx w' kb (3, 0, ks)) := fun wx q => by
                    refine ((HM7.out.below q).set (by omega) (3, 0, ks) (2, (i : Int), ⟨#[]⟩) hrk).mono ?_
                    rintro e w' ⟨rfl, h1, h2⟩
                    rw [hr] at h1 ⊢
                    exact ⟨by rw [HRr.out.1], h1, (HR7.out.below q).kept h2 HP2.out.2.1, (HX7.out.below q).kept h2 HP2.out.1⟩
                  have k0 : w7a.cell? ⟨kb, 0, none⟩ = some (.int .i64 3) := HX7.out.c0
                  have k1 : w7a.cell? ⟨kb, 1, none⟩ = some (.int .i64 0) := HX7.out.c1
                  have k2 : w7a.cell? ⟨kb, 2, none⟩ = some (.string ks) := HX7.out.c2
                  unfold vl at CI
                  clear hr hfv
                  go_upto_region 27 with fail
                  go_cut [124] from 89 to 138 (fun bw wx => bw = .bool false ∧ Hid (Ms P2 W wx X (.slice a L' cap) T S hb (c2 + 8 * i + 1 + 7) r.1 r.2.1 4 ∧ R4 wx wbk (.int .i64 (t.p.n : Nat)) (.int .i64 (t.p.z : Nat)) (.int .i64 (t.p.g.f : Nat)) (.int .i64 t.hint) ∧ Bx wx kb (3, 0, ks)))
                  case first =>
                    go_region_with (first
                      | (go_at_call 24; refine CI.mono ?_; rintro e w8a ⟨rfl, hbz⟩; have hB : Below w7a.heap.size w7a w8a := bthen (bdrew1 w7a) (Nat.le_refl _) hbz; have CS8 := HCS.out w8a hB; have f0 : w8a.cell? ⟨kb, 0, none⟩ = some (.int .i64 3) := (HX7.out.below hB).c0; have f1 : w8a.cell? ⟨kb, 1, none⟩ = some (.int .i64 0) := (HX7.out.below hB).c1; have f2 : w8a.cell? ⟨kb, 2, none⟩ = some (.string ks) := (HX7.out.below hB).c2; clear hbz hB)
                      | (go_at_call 11; refine CS8.mono ?_; rintro e w9a ⟨rfl, q1, q2, q3⟩; have HX9 : Hid (Ms P2 W w9a X (.slice a L' cap) T S hb (c2 + 8 * i + 1 + 7) r.1 r.2.1 4 ∧ R4 w9a wbk (.int .i64 (t.p.n : Nat)) (.int .i64 (t.p.z : Nat)) (.int .i64 (t.p.g.f : Nat)) (.int .i64 t.hint) ∧ Bx w9a kb (3, 0, ks)) := ⟨q1, q2, q3⟩; clear q1 q2 q3))
                    all_goals
                      go_wp2_with fail
                      go_meet
                      exact ⟨rfl, HX9⟩
                  case rest =>
                    obtain ⟨rfl, HX9⟩ := hcut
                    clear CI HCS k0 k1 k2 HM7 HR7 HX7
                    cases al with
                    | false =>
                      have HZ : Hid (∃ u s, Ms P1 W wc X (.slice a L' cap) T S hb (c2 + 8 * (i + 1)) u s 4 ∧ u.p.n = t.p.n ∧ u.p.z = t.p.z ∧ s.lim = 400000 ∧ R4 wc wbk (.int .i64 (t.p.n : Nat)) (.int .i64 (t.p.z : Nat)) (.int .i64 (t.p.g.f : Nat)) (.int .i64 t.hint)) := by
                        have hrr := HRr.out.2.2.1 rfl
                        have h9 := HX9.out.1
                        rw [hrr] at h9
                        obtain ⟨z1, z2⟩ := pset_nz u1.p (3, 0, ks) (2, (i : Int), ⟨#[]⟩)
                        refine ⟨one u1 (3, 0, ks) (2, (i : Int), ⟨#[]⟩), s, (h9.subP HP2.out.2.2 HLo.out).more (by omega), ?_, ?_, HNZ.out.2.2.1, HX9.out.2.1⟩
                        · show (pset u1.p (3, 0, ks) (2, (i : Int), ⟨#[]⟩)).1.n = t.p.n
                          rw [z1, HU1.out]; exact HNZ.out.1
                        · show (pset u1.p (3, 0, ks) (2, (i : Int), ⟨#[]⟩)).1.z = t.p.z
                          rw [z2, HU1.out]; exact HNZ.out.2.1
                      go_wp2_with fail
                      go_round
                      case rel => exact ⟨i + 1, by go_num, by omega, HZ⟩
                      case measure => simp [intOf]; omega
                    | true =>
                      have hM9 := HX9.out.1
                      have hset := set_due (s := s) HTI1.out hrk (HRr.out.2.1 rfl) (by rw [HRr.out.2.2.2]; exact HRr.out.1) (by rw [HRr.out.2.2.2]; exact hM9.ti.1)
                      rw [HRr.out.2.2.2] at hset
                      have hmap := ((tset_map (s := s) (v := (2, (i : Int), ⟨#[]⟩)) HTI1.out hrk).1 (by rw [HRr.out.2.2.2]; exact HRr.out.1)).2.2.1
                      rw [HRr.out.2.2.2] at hmap
                      have CT := hM9.stats
                      have HPr : Hid (∀ wx, Below wc.heap.size wc wx → Calls Try.prog 21 #[tp T] wx fun e w' => ∃ v F, e = .returned v ∧ Lv w' wx.heap.size v (pres r.1.p).length F ∧ Is F (pres r.1.p).length (pres r.1.p) ∧ Below wx.heap.size wx w') := fun wx q => (hM9.below q).present
                      have HFi : Hid (∀ (wx : World) (v : Value) (F : Nat → V) (B : Nat), Lv wx B v (pres r.1.p).length F → Is F (pres r.1.p).length (pres r.1.p) → Calls Try.prog 25 #[ts r.1, v] wx fun e w'' => e = .returned (.bool true) ∧ Below wx.heap.size wx w'') := fun wx v F B hl hi => hM9.fits hl hi hset.1
                      have HGe : Hid (∀ wx, Below wc.heap.size wc wx → (Calls Try.prog 26 #[tp T, .agg #[.int .i64 3, .int .i64 0, .string ks]] wx fun e w' => e = .returned (.agg #[.int .i64 2, .int .i64 (i : Int), .string ⟨#[]⟩]) ∧ Below X W w') ∧ wx.cell? ⟨kb, 0, none⟩ = some (.int .i64 3) ∧ wx.cell? ⟨kb, 1, none⟩ = some (.int .i64 0) ∧ wx.cell? ⟨kb, 2, none⟩ = some (.string ks)) := fun wx q => by
                        refine ⟨((hM9.below q).get (by omega) (3, 0, ks) hrk).mono ?_, (HX9.out.2.2.below q).c0, (HX9.out.2.2.below q).c1, (HX9.out.2.2.below q).c2⟩
                        rintro e w' ⟨rfl, h1, h2⟩
                        exact ⟨by rw [hmap], h1.bel⟩
                      have CI := fun W => mkI (i : Int) W
                      have E := eql32 2 (i : Int) 2 (i : Int) ⟨#[]⟩ ⟨#[]⟩
                      simp only [decide_true] at E
                      have g32 := guard32
                      have HXs : Hid (X ≤ wc.heap.size) := Nat.le_of_lt hM9.sz
                      unfold vl at E CI
                      unfold ts sv tp at CT
                      clear hM9 hset hmap HRr HX9
                      go_wp2_with fail
                      refine CT.mono ?_; rintro e w1b ⟨rfl, hb1⟩
                      have CP := HPr.out w1b hb1
                      have HB1 : Hid (Below wc.heap.size wc w1b) := hb1
                      unfold tp at CP
                      clear hb1 CT HPr
                      go_wp2_with fail
                      refine CP.mono ?_; rintro e w2b ⟨v2, F2, rfl, hl2, hi2, hb2⟩
                      have CF := HFi.out w2b v2 F2 _ hl2 hi2
                      have HB2 : Hid (Below wc.heap.size wc w2b) := bthen HB1.out HB1.out.size hb2
                      unfold ts sv at CF
                      clear hb2 hl2 hi2 CP HFi HB1
                      go_wp2_with fail
                      refine CF.mono ?_; rintro e w3b ⟨rfl, hb3⟩
                      obtain ⟨CG, k0, k1, k2⟩ := HGe.out w3b (bthen HB2.out HB2.out.size hb3)
                      unfold tp at CG
                      clear hb3 CF HB2 HGe
                      go_wp2_with fail
                      refine CG.mono ?_; rintro e w4b ⟨rfl, hb4⟩
                      have HB4 : Hid (Below X W w4b) := hb4
                      have HZs : Hid (X ≤ w4b.heap.size) := Nat.le_trans (by rw [← HX.out]; exact Nat.le_refl _) hb4.size
                      clear hb4 CG k0 k1 k2
                      go_wp2_with fail
                      refine (CI _).mono ?_; rintro e w5b ⟨rfl, hb5⟩
                      have HB5 : Hid (Below X W w5b) := bthen HB4.out HZs.out hb5
                      clear hb5 CI
                      go_wp2_with fail
                      go_ret
                      exact ⟨rfl, HB5.out⟩
              · have hA3 : ¬ (i : Int) ≤ (t.p.z : Int) := by omega
                have HBl : Hid (Below X W wr) := hM.bel
                clear hM hun huz hlim hR
                go_wp2_with fail
                go_ret
                exact ⟨rfl, HBl.out⟩
end Go.Proofs.Ytonopchpnhninab
