/- The walk of TablePlays. The great seat's numbers. -/
import Derived.Test.YtonopchpnhninaaGreatCg43
import Derived.Test.YtonopchpnhninaaGreatCg34
namespace Go.Proofs.YtonopchpnhninaaGreat
open Go.RowKit

set_option maxRecDepth 100000 in
set_option maxHeartbeats 60000000 in
theorem tl_ok (l x y : Int) (a : Option Addr) (L cap : Nat) (hL : L ≤ cap) (W : World) (Q : Nat → Int × V × V × Int) (hO : Ops W.heap.size W a L Q) (h0 : 0 ≤ l) (h1 : l ≤ 400000) (he : nE (H.newSt l) (cN x) (cN y) = 0) :
    Calls Tryz.prog 3 #[cv l x y (.slice a L cap)] W fun e w' => e = .returned (.bool true) ∧ Below W.heap.size W w' := by
  have CB := fun w => begin_ok l (cN x) (cN y) a (min L 300) cap w h0 h1 he
  unfold cv tp at CB
  have HO : Hid (Ops W.heap.size W a (min L 300) Q) := hO.cut (Nat.min_le_left _ _)
  clear h0 h1 he hO
  have CF := fun w => fixed_any w
  have CC := fun w => cut_any l x y a L cap hL w
  unfold cv at CC ⊢
  have R0 := R4.made W (.int .i64 l) (.int .i64 x) (.int .i64 y) (.slice a L cap) 24
  have B0 := b1 W (.cells #[.int .i64 l, .int .i64 x, .int .i64 y, .slice a L cap] 24)
  obtain ⟨W0, hW0⟩ : ∃ W0, W.alloc (.cells #[.int .i64 l, .int .i64 x, .int .i64 y, .slice a L cap] 24) = W0 := ⟨_, rfl⟩
  rw [hW0] at R0 B0
  have HR0 : Hid (R4 W0 W.heap.size (.int .i64 l) (.int .i64 x) (.int .i64 y) (.slice a L cap)) := R0
  have HB0 : Hid (Below W.heap.size W W0) := B0
  clear R0 B0
  generalize hX : W.heap.size = X at *
  have HX : Hid (W.heap.size = X) := hX
  go_enter Tryz.func3, Tryz.ntmps3
  go_wp2_with fail
  refine (CF _).mono ?_; rintro e w1 ⟨rfl, hb1⟩
  have R1 := HR0.out.below hb1
  have HB1 : Hid (Below X W w1) := bthen HB0.out (Nat.le_of_lt HR0.out.lt) hb1
  have HR1 : Hid (R4 w1 X (.int .i64 l) (.int .i64 x) (.int .i64 y) (.slice a L cap)) := R1
  have c0 := R1.c0
  have c1 := R1.c1
  have c2 := R1.c2
  have c3 := R1.c3
  clear hb1 R1 HR0 HB0 CF hW0
  go_wp2_with fail
  refine (CC _).mono ?_; rintro e w2 ⟨rfl, hb2⟩
  have R2 := HR1.out.below hb2
  have R3 := R2.set (.int .i64 l) (.int .i64 (cN x)) (.int .i64 (cN y)) (.slice a (min L 300) cap)
  have K3 := ((Keep.refl (fun g => g < X) w2).set4 (N := X) (Nat.lt_irrefl X) (.int .i64 l) (.int .i64 (cN x)) (.int .i64 (cN y)) (.slice a (min L 300) cap)).below (N := X) (Nat.le_of_lt R2.lt) (fun g q => q)
  obtain ⟨W3, hW3⟩ : ∃ W3, set4 w2 X (.int .i64 l) (.int .i64 (cN x)) (.int .i64 (cN y)) (.slice a (min L 300) cap) = W3 := ⟨_, rfl⟩
  rw [hW3] at R3 K3
  unfold set4 at hW3
  have HB3 : Hid (Below X W W3) := (bthen HB1.out (Nat.le_of_lt HR1.out.lt) hb2).trans K3
  have HR3 : Hid (R4 W3 X (.int .i64 l) (.int .i64 (cN x)) (.int .i64 (cN y)) (.slice a (min L 300) cap)) := R3
  have rc0 := R2.c0
  have rc1 := R2.c1
  have rc2 := R2.c2
  have rc3 := R2.c3
  have rcf := R2.fz
  have t0 := R3.c0
  have t1 := R3.c1
  have t2 := R3.c2
  have t3 := R3.c3
  clear hb2 R2 R3 K3 HB1 HR1 CC c0 c1 c2 c3
  go_wp2_with fail
  refine (CB _).mono ?_; rintro e w4 ⟨M, T, A, b, a', S, hb, RT, RA, P, ka, va, ca, G, n', z, t, rfl, bg, ok, es1, es2⟩
  have hlt3 := HR3.out.lt
  obtain ⟨Q0, hQ0⟩ : ∃ Q0, (fun g => g < W3.heap.size) = Q0 := ⟨_, rfl⟩
  have HX3 : Hid (Q0 X ∧ (∀ g, g < X → Q0 g)) := by rw [← hQ0]; exact ⟨hlt3, fun g q => Nat.lt_trans q hlt3⟩
  have HM0 : Hid (Bz Q0 w4 T S hb RT G 3 t (nS (H.newSt l) (cN x) (cN y)) t (nS (H.newSt l) (cN x) (cN y)) ∧ Keep Q0 W3 w4) := by rw [← hQ0]; exact ⟨bg.bz, Keep.of bg.bel⟩
  clear hQ0
  obtain ⟨L', hL'⟩ : ∃ L', min L 300 = L' := ⟨_, rfl⟩
  have hL3 : L' ≤ 300 := by omega
  have hLc : L' ≤ cap := by omega
  rw [hL'] at HO HR3
  have HXl : Hid (X < W3.heap.size) := hlt3
  have HC : Hid (∀ w, Keep Q0 W3 w → w.cell? ⟨X, 3, none⟩ = some (.slice a L' cap) ∧ Below X W w) := fun w kk =>
    ⟨(HR3.out.kept kk HX3.out.1).c3, HB3.out.trans (kk.below (Nat.le_of_lt HXl.out) (fun g hg => HX3.out.2 g hg))⟩
  clear bg ok hlt3 CB HR3 HB3 rc0 rc1 rc2 rc3 rcf t0 t1 t2 t3 hW3 es1 es2
  go_wp2_with fail
  go_loopw [7] (fun iw wr => ∃ k : Nat, iw = .int .i64 (k : Nat) ∧ k ≤ L' ∧ Hid (∃ t s, Bz Q0 wr T S hb RT G (3 + 16 * k) t s t s ∧ Keep Q0 W3 wr)) (fun iw _ => L' - (intOf iw).toNat)
  case atStart => exact ⟨0, rfl, by omega, ⟨_, _, HM0.out⟩⟩
  case round =>
    obtain ⟨k, rfl, hk, HG⟩ := hrel
    obtain ⟨t1, s1, hM, hK⟩ := HG.out
    clear HG HM0
    obtain ⟨xc, xb⟩ := HC.out wr hK
    have HM : Hid (Bz Q0 wr T S hb RT G (3 + 16 * k) t1 s1 t1 s1 ∧ Keep Q0 W3 wr) := ⟨hM, hK⟩
    by_cases hlt : k < L'
    · have hlt' : (k : Int) < (L' : Int) := by omega
      have hk0 : ¬ ((k : Int) < 0) := by omega
      obtain ⟨lb, off, ha, hlb, o0, o1, o2, o3, o4, o5, o6, o7⟩ := (HO.out.below xb).at hlt
      subst ha
      have HRk : Hid (Rng (Q k).2.1 ∧ (Q k).2.2.2 ≤ 9223372036854775807) := ⟨(HO.out.1 k hlt).1, (HO.out.1 k hlt).2.2⟩
      have HSk : Hid (∀ w, Keep Q0 W3 w ∧ w.cell? ⟨RT, 6, none⟩ = some (.pointer (some ⟨G, 0, none⟩)) → w.cell? ⟨X, 3, none⟩ = some (.slice (some ⟨lb, off, none⟩) L' cap) ∧ w.cell? ⟨lb, off + k * 8, none⟩ = some (.int .i64 (Q k).1) ∧ w.cell? ⟨lb, off + k * 8 + 1, none⟩ = some (.int .i64 (Q k).2.1.1) ∧ w.cell? ⟨lb, off + k * 8 + 2, none⟩ = some (.int .i64 (Q k).2.1.2.1) ∧ w.cell? ⟨lb, off + k * 8 + 3, none⟩ = some (.string (Q k).2.1.2.2) ∧ w.cell? ⟨lb, off + k * 8 + 4, none⟩ = some (.int .i64 (Q k).2.2.1.1) ∧ w.cell? ⟨lb, off + k * 8 + 5, none⟩ = some (.int .i64 (Q k).2.2.1.2.1) ∧ w.cell? ⟨lb, off + k * 8 + 6, none⟩ = some (.string (Q k).2.2.1.2.2) ∧ w.cell? ⟨lb, off + k * 8 + 7, none⟩ = some (.int .i64 (Q k).2.2.2) ∧ w.cell? ⟨RT, 6, none⟩ = some (.pointer (some ⟨G, 0, none⟩))) := fun w kk => by
        obtain ⟨lb', off', ha', _, p0, p1, p2, p3, p4, p5, p6, p7⟩ := (HO.out.below (HC.out w kk.1).2).at hlt
        obtain ⟨rfl, rfl⟩ : lb = lb' ∧ off = off' := by simpa using ha'
        exact ⟨(HC.out w kk.1).1, p0, p1, p2, p3, p4, p5, p6, p7, kk.2⟩
      have CSt := step_any (hM.below (bdrew1 wr)) (by omega) (Q k).1 (Q k).2.1 (Q k).2.2.1 (Q k).2.2.2 HRk.out.1 HRk.out.2
      have HG0 : Hid (Keep Q0 W3 wr.drew ∧ wr.drew.cell? ⟨RT, 6, none⟩ = some (.pointer (some ⟨G, 0, none⟩))) := ⟨hK.trans (Keep.of (bdrew1 wr)), (hM.below (bdrew1 wr)).cells.2⟩
      generalize (Q k).1 = d at *
      generalize (Q k).2.1 = kk at *
      generalize (Q k).2.2.1 = v0 at *
      generalize (Q k).2.2.2 = m at *
      unfold ov tp at CSt
      have N2 := fun x y u v => neq42 x y u v x y u v
      simp only [decide_true, and_self, Bool.not_true] at N2
      unfold sv at N2
      clear hM hK xb o0 o1 o2 o3 o4 o5 o6 o7
      obtain ⟨xc, o0, o1, o2, o3, o4, o5, o6, o7, _⟩ := HSk.out wr ⟨HM.out.2, HM.out.1.cells.2⟩
      go_upto_region 10 with fail
      go_cut [120] from 69 to 119 (fun cw wx => cw = .bool false ∧ Hid (∃ t s, Bz Q0 wx T S hb RT G (3 + 16 * (k + 1)) t s t s ∧ Keep Q0 W3 wx))
      case first =>
       clear HSk HO HC hlb HM HRk HX3 HXl
       go_region_with (first
        | (go_at_call 16; refine CSt.mono ?_; rintro e w5 ⟨rfl, ⟨t5, s5, h5⟩, k5⟩; have HG1 : Hid (Keep Q0 W3 w5 ∧ w5.cell? ⟨RT, 6, none⟩ = some (.pointer (some ⟨G, 0, none⟩))) := ⟨HG0.out.1.trans k5, h5.cells.2⟩; have HM5 : Hid (Bz Q0 w5 T S hb RT G (3 + 16 * k + 14) t5 s5 t5 s5) := h5; have C15 := h5.stats; unfold ts sv tp at C15; clear h5 k5)
        | (go_at_call 15; refine C15.mono ?_; rintro e w6 ⟨rfl, hb6⟩; have h6 := HM5.out.below hb6; have HG2 : Hid (Keep Q0 W3 w6 ∧ w6.cell? ⟨RT, 6, none⟩ = some (.pointer (some ⟨G, 0, none⟩))) := ⟨HG1.out.1.trans (Keep.of hb6), h6.cells.2⟩; have HM6 : Hid (Bz Q0 w6 T S hb RT G (3 + 16 * k + 14) t5 s5 t5 s5) := h6; have C17 := h6.rstats; unfold ts sv tp at C17; clear h6 hb6)
        | (go_at_call 17; refine C17.mono ?_; rintro e w7 ⟨rfl, hb7⟩; have h7 := HM6.out.below hb7; have HG3 : Hid (Keep Q0 W3 w7 ∧ w7.cell? ⟨RT, 6, none⟩ = some (.pointer (some ⟨G, 0, none⟩))) := ⟨HG2.out.1.trans (Keep.of hb7), h7.cells.2⟩; have HM7 : Hid (Bz Q0 w7 T S hb RT G (3 + 16 * k + 14) t5 s5 t5 s5) := h7; have r5 := h7.cells.1; have C14 := h7.probes; have C12 := h7.places; unfold tp at C14 C12; clear h7 hb7)
        | (go_at_call 14; refine C14.mono ?_; rintro e wp ⟨rfl, hwp⟩; rw [hwp]; clear hwp wp)
        | (go_at_call 12; refine C12.mono ?_; rintro e w8 ⟨rfl, hb8⟩; have h8 := HM7.out.below hb8; have HG4 : Hid (Keep Q0 W3 w8 ∧ w8.cell? ⟨RT, 6, none⟩ = some (.pointer (some ⟨G, 0, none⟩))) := ⟨HG3.out.1.trans (Keep.of hb8), h8.cells.2⟩; have HM8 : Hid (Bz Q0 w8 T S hb RT G (3 + 16 * k + 14) t5 s5 t5 s5) := h8; have C18 := h8.rplaces; unfold tp at C18; clear h8 hb8)
        | (go_at_call 18; refine C18.mono ?_; rintro e w9 ⟨rfl, hb9⟩; have h9 := HM8.out.below hb9; have HG5 : Hid (Keep Q0 W3 w9 ∧ w9.cell? ⟨RT, 6, none⟩ = some (.pointer (some ⟨G, 0, none⟩))) := ⟨HG4.out.1.trans (Keep.of hb9), h9.cells.2⟩; have HM9 : Hid (Bz Q0 w9 T S hb RT G (3 + 16 * k + 14) t5 s5 t5 s5) := h9; have r6 := h9.cells.2; have C19 := h9.live.1; have C21 := h9.live.2; have C20 := (h9.rlive (by omega)).1; have C22 := (h9.rlive (by omega)).2; unfold tp at C19 C20 C21 C22; clear h9 hb9)
        | (go_at_call 19; refine C19.mono ?_; rintro e wp ⟨rfl, hwp⟩; rw [hwp]; clear hwp wp)
        | (go_at_call 20; refine C20.mono ?_; rintro e wp ⟨rfl, hwp⟩; rw [hwp]; clear hwp wp)
        | (go_at_call 21; refine C21.mono ?_; rintro e wp ⟨rfl, hwp⟩; rw [hwp]; clear hwp wp)
        | (go_at_call 22; refine C22.mono ?_; rintro e wp ⟨rfl, hwp⟩; rw [hwp]; clear hwp wp))
       all_goals
         go_wp2_with fail
         go_meet
         exact ⟨rfl, t5, s5, HM9.out.more (by omega), HG5.out.1⟩
      case rest =>
        obtain ⟨rfl, HR3⟩ := hcut
        clear CSt HG0 xc o0 o1 o2 o3 o4 o5 o6 o7 N2
        go_wp2_with fail
        go_round
        case rel => exact ⟨k + 1, by go_num, by omega, HR3⟩
        case measure => simp [intOf]; omega
    · have hle : ¬ (k : Int) < (L' : Int) := by omega
      have CD := (hM.below (bdrew1 wr)).dumps rfl
      have HG0 : Hid (Below wr.heap.size wr wr.drew) := bdrew1 wr
      have HBf : Hid (∀ w, Below wr.heap.size wr w → Below X W w) := fun w hw => (HC.out w (HM.out.2.trans (Keep.of hw))).2
      have HSk : Hid (∀ w, Below wr.heap.size wr w → w.cell? ⟨RT, 6, none⟩ = some (.pointer (some ⟨G, 0, none⟩))) := fun w hw => (HM.out.1.below hw).cells.2
      have HLn : Hid ((H.tids s1.bl s1.bl.length).length ≤ 3 + 16 * k) := hM.blen
      unfold tp at CD
      clear hM hK xb
      go_wp2_with fail
      go_region_held3 (fun w' => w'.cell? ⟨RT, 6, none⟩ = some (.pointer (some ⟨G, 0, none⟩))) (exact HSk.out _ (by first | exact HG0.out | exact HG1.out | exact HG2.out | exact HG3.out | exact HG4.out)) (first
        | (go_at_call 23; refine CD.mono ?_; rintro e w5 ⟨rfl, hb5⟩; have HG1 : Hid (Below wr.heap.size wr w5) := bthen HG0.out HG0.out.size hb5; have C25 := (HM.out.1.below HG1.out).blocks (by omega); unfold tp at C25; clear hb5)
        | (go_at_call 25; refine C25.mono ?_; rintro e w6 ⟨v6, rfl, o6, hb6⟩; have HG2 : Hid (Below wr.heap.size wr w6) := bthen HG1.out HG1.out.size hb6; have HI6 : Hid (C.Ints w6.heap.size w6 v6 (H.tids s1.bl s1.bl.length)) := C.ints_own o6; have C26 := (HM.out.1.below HG2.out).rblocks (by omega); unfold tp at C26; clear o6 hb6)
        | (go_at_call 26; refine C26.mono ?_; rintro e w7 ⟨v7, rfl, o7, hb7⟩; have HG3 : Hid (Below wr.heap.size wr w7) := bthen HG2.out HG2.out.size hb7; have C24 := C.same_walk _ _ v6 v7 w7 (HI6.out.go hb7) (C.ints_own o7) rfl (by have := HLn.out; omega); simp only [decide_true] at C24; clear o7 hb7)
        | (go_at_call 24; refine C24.mono ?_; rintro e w8 ⟨rfl, hb8⟩; have HG4 : Hid (Below wr.heap.size wr w8) := bthen HG3.out HG3.out.size hb8; clear hb8))
      all_goals
        go_wp2_with fail
        go_ret
        exact ⟨rfl, HBf.out _ HG4.out⟩
end Go.Proofs.YtonopchpnhninaaGreat
