/- The walk of fixed, the document's first three examples. -/
import Derived.Test.YtbkgbojfjijalaaBe
namespace Go.Proofs.Ytbkgbojfjijalaa
open Go.RowKit

abbrev ki (n : Int) : V := (2, n, ⟨#[]⟩)
theorem fm_ki (n : Int) : fm (ki n) = true := by simp [fm, inF, ByteArray.toList_eq]
theorem ki_rng {n : Int} (h0 : -9223372036854775808 ≤ n) (h1 : n ≤ 9223372036854775807) : Rng (ki n) := ⟨h0, h1⟩
def fp1 : G := ins0 (g0 4) 0 (ki 3) (ki 1)
def fp2 : G := ins1 fp1 0 3 (ki 6) (ki 1)
def fp3 : G := ins1 fp2 0 2 (ki 9) (ki 1)
def fp4 : G := ins2 fp3 0 2 1 (ki 2) (ki 1)
theorem put_ki (g : G) (n v : Int) : put 4 g (ki n) (ki v) = match find (pl 4) g (ki n) with
      | (some i, n) => (setX g i (ki v), n, 0)
      | (none, m) => ((ins (pl 4) g (ki n) (ki v)).1, m, full (ins (pl 4) g (ki n) (ki v)).2) := by
  rw [put, if_pos ⟨fm_ki n, fm_ki v⟩, if_neg (show ¬ (2 : Int) = 0 by decide), if_neg (by decide)]
  rfl
theorem fx1 : put 4 (g0 4) (ki 3) (ki 1) = (fp1, 1, 0) := by rw [put_ki]; kernel_rfl
theorem fx2 : put 4 fp1 (ki 6) (ki 1) = (fp2, 1, 0) := by rw [put_ki]; kernel_rfl
theorem fx3 : put 4 fp2 (ki 9) (ki 1) = (fp3, 2, 0) := by rw [put_ki]; kernel_rfl
theorem fx4 : put 4 fp3 (ki 2) (ki 1) = (fp4, 2, 0) := by rw [put_ki]; kernel_rfl
theorem fx5 : find (pl 4) fp4 (ki 6) = (some 3, 3) := by kernel_rfl
theorem fx6 : fp4.K 1 = ki 9 ∧ link (pl 4) fp4 1 = 2 ∧ link (pl 4) fp4 0 = 1 ∧ fp4.f = 1 := ⟨by kernel_rfl, by kernel_rfl, by kernel_rfl, by kernel_rfl⟩
theorem rt4 : Rt 4 := .inr (by decide)

set_option maxHeartbeats 4000000 in
theorem fixed_any (w : World) : Calls Try.prog 9 #[] w fun e w' => e = .returned (.bool true) ∧ Below w.heap.size w w' := by
  have C0 := new_any 4 w rt4
  have CI := mkI
  have P0 := newW_pt w 4
  have B0 := newW_below w 4
  obtain ⟨W0, hW0⟩ : ∃ W0, newW w 4 = W0 := ⟨_, rfl⟩
  rw [hW0] at P0 B0 C0
  clear hW0
  have I0 := g0_inv 4 (pl 4)
  have I1 := (put_inv (ki 3) (ki 1) I0 rt4 (ki_rng (by decide) (by decide))).1
  rw [fx1] at I1
  have I2 := (put_inv (ki 6) (ki 1) I1 rt4 (ki_rng (by decide) (by decide))).1
  simp only at I2
  rw [fx2] at I2
  have I3 := (put_inv (ki 9) (ki 1) I2 rt4 (ki_rng (by decide) (by decide))).1
  simp only at I3
  rw [fx3] at I3
  have I4 := (put_inv (ki 2) (ki 1) I3 rt4 (ki_rng (by decide) (by decide))).1
  simp only at I4
  rw [fx4] at I4
  simp only at I1 I2 I3 I4
  have D1 := fun W (P : Pt W (w.heap.size + 1) w.heap.size 4 (g0 4)) => put_all (ki 3) (ki 1) W P I0 rt4 (ki_rng (by decide) (by decide))
  have D2 := fun W (P : Pt W (w.heap.size + 1) w.heap.size 4 fp1) => put_all (ki 6) (ki 1) W P I1 rt4 (ki_rng (by decide) (by decide))
  have D3 := fun W (P : Pt W (w.heap.size + 1) w.heap.size 4 fp2) => put_all (ki 9) (ki 1) W P I2 rt4 (ki_rng (by decide) (by decide))
  have D4 := fun W (P : Pt W (w.heap.size + 1) w.heap.size 4 fp3) => put_all (ki 2) (ki 1) W P I3 rt4 (ki_rng (by decide) (by decide))
  have D5 := fun W (P : Pt W (w.heap.size + 1) w.heap.size 4 fp4) => find_any (ki 6) W P I4 (by decide) (show KOK (ki 6) from ⟨fm_ki 6, by decide, by decide, by decide⟩)
  have D6 := fun W (P : Pt W (w.heap.size + 1) w.heap.size 4 fp4) => at_in 1 W P (by decide)
  have D7 := fun W (P : Pt W (w.heap.size + 1) w.heap.size 4 fp4) => at_in 0 W P (by decide)
  have D8 := fun W (P : Pt W (w.heap.size + 1) w.heap.size 4 fp4) => free_any W P
  simp only [fx1, fx2, fx3, fx4, fx5, fx6.1, fx6.2.1, fx6.2.2.1, fx6.2.2.2, fi] at D1 D2 D3 D4 D5 D6 D7 D8
  have hP0 : Hid _ := P0
  have hB0 : Hid _ := B0
  have f0 := field0 (ki 9) (fp4.X 1) 2
  have f2 := field2 (ki 9) (fp4.X 1) 2
  have f3 := field2 (fp4.K 0) (fp4.X 0) 1
  have q32 := eql32 2 9 2 9 ⟨#[]⟩ ⟨#[]⟩
  rw [decide_eq_true rfl] at q32
  have g32 := guard32
  clear I0 I1 I2 I3 I4 P0 B0
  unfold pp ki at *
  unfold vl vn at *
  generalize hB : w.heap.size = B at *
  have HB : Hid (w.heap.size = B) := hB
  clear hB
  simp only at *
  have n0 : ((0 : Nat) : Int) = 0 := rfl
  have n1 : ((1 : Nat) : Int) = 1 := rfl
  have n2 : ((2 : Nat) : Int) = 2 := rfl
  have n3 : ((3 : Nat) : Int) = 3 := rfl
  have n4 : ((4 : Nat) : Int) = 4 := rfl
  simp only [n0, n1, n2, n3, n4] at C0 D1 D2 D3 D4 D5 D6 D7 D8
  clear n0 n1 n2 n3 n4
  go_enter Try.func9, Try.ntmps9
  go_wp2_with fail
  refine C0.mono ?_; rintro e w0 ⟨rfl, rfl⟩
  have K0 : Hid (Keep (fun x => x < B) w w0) := Keep.of (HB.out ▸ hB0.out)
  have P0 : Hid (Pt w0 (B + 1) B 4 (g0 4)) := hP0.out
  clear hP0 hB0 C0
  go_wp2_with fail
  refine (CI _ _).mono ?_; rintro e w1 ⟨rfl, hb⟩
  have K1 : Hid _ := K0.out.bel hb
  have P1 : Hid _ := P0.out.below hb
  clear hb K0 P0
  go_wp2_with fail
  refine (CI _ _).mono ?_; rintro e w2 ⟨rfl, hb⟩
  have K2 : Hid _ := K1.out.bel hb
  have P2 : Hid _ := P1.out.below hb
  clear hb K1 P1
  have C := D1 _ P2.out
  go_wp2_with fail
  refine C.mono ?_; rintro e w3 ⟨rfl, hp, hk⟩
  have P3 : Hid _ := hp
  have K3 : Hid _ := K2.out.trans (hk.sub (fun g hg => by show g ≠ B ∧ g ≠ B + 1; have : g < B := hg; omega))
  clear hp hk K2 P2 D1 C
  go_wp2_with fail
  refine (CI _ _).mono ?_; rintro e w4 ⟨rfl, hb⟩
  have K4 : Hid _ := K3.out.bel hb
  have P4 : Hid _ := P3.out.below hb
  clear hb K3 P3
  go_wp2_with fail
  refine (CI _ _).mono ?_; rintro e w5 ⟨rfl, hb⟩
  have K5 : Hid _ := K4.out.bel hb
  have P5 : Hid _ := P4.out.below hb
  clear hb K4 P4
  have C := D2 _ P5.out
  go_wp2_with fail
  refine C.mono ?_; rintro e w6 ⟨rfl, hp, hk⟩
  have P6 : Hid _ := hp
  have K6 : Hid _ := K5.out.trans (hk.sub (fun g hg => by show g ≠ B ∧ g ≠ B + 1; have : g < B := hg; omega))
  clear hp hk K5 P5 D2 C
  go_wp2_with fail
  refine (CI _ _).mono ?_; rintro e w7 ⟨rfl, hb⟩
  have K7 : Hid _ := K6.out.bel hb
  have P7 : Hid _ := P6.out.below hb
  clear hb K6 P6
  go_wp2_with fail
  refine (CI _ _).mono ?_; rintro e w8 ⟨rfl, hb⟩
  have K8 : Hid _ := K7.out.bel hb
  have P8 : Hid _ := P7.out.below hb
  clear hb K7 P7
  have C := D3 _ P8.out
  go_wp2_with fail
  refine C.mono ?_; rintro e w9 ⟨rfl, hp, hk⟩
  have P9 : Hid _ := hp
  have K9 : Hid _ := K8.out.trans (hk.sub (fun g hg => by show g ≠ B ∧ g ≠ B + 1; have : g < B := hg; omega))
  clear hp hk K8 P8 D3 C
  go_wp2_with fail
  refine (CI _ _).mono ?_; rintro e w10 ⟨rfl, hb⟩
  have K10 : Hid _ := K9.out.bel hb
  have P10 : Hid _ := P9.out.below hb
  clear hb K9 P9
  go_wp2_with fail
  refine (CI _ _).mono ?_; rintro e w11 ⟨rfl, hb⟩
  have K11 : Hid _ := K10.out.bel hb
  have P11 : Hid _ := P10.out.below hb
  clear hb K10 P10
  have C := D4 _ P11.out
  go_wp2_with fail
  refine C.mono ?_; rintro e w12 ⟨rfl, hp, hk⟩
  have P12 : Hid _ := hp
  have K12 : Hid _ := K11.out.trans (hk.sub (fun g hg => by show g ≠ B ∧ g ≠ B + 1; have : g < B := hg; omega))
  clear hp hk K11 P11 D4 C
  go_wp2_with fail
  refine (CI _ _).mono ?_; rintro e w13 ⟨rfl, hb⟩
  have K13 : Hid _ := K12.out.bel hb
  have P13 : Hid _ := P12.out.below hb
  clear hb K12 P12
  have C := D5 _ P13.out
  go_wp2_with fail
  refine C.mono ?_; rintro e w14 ⟨rfl, hb⟩
  have K14 : Hid _ := K13.out.bel hb
  have P14 : Hid _ := P13.out.below hb
  clear hb K13 P13 C
  have C := D6 _ P14.out
  go_wp2_with fail
  refine C.mono ?_; rintro e w15 ⟨rfl, hb⟩
  have K15 : Hid _ := K14.out.bel hb
  have P15 : Hid _ := P14.out.below hb
  clear hb K14 P14 C
  go_wp2_with fail
  refine (CI _ _).mono ?_; rintro e w16 ⟨rfl, hb⟩
  have K16 : Hid _ := K15.out.bel hb
  have P16 : Hid _ := P15.out.below hb
  clear hb K15 P15
  have C := D6 _ P16.out
  go_wp2_with fail
  refine C.mono ?_; rintro e w17 ⟨rfl, hb⟩
  have K17 : Hid _ := K16.out.bel hb
  have P17 : Hid _ := P16.out.below hb
  clear hb K16 P16 C
  have C := D7 _ P17.out
  go_wp2_with fail
  refine C.mono ?_; rintro e w18 ⟨rfl, hb⟩
  have K18 : Hid _ := K17.out.bel hb
  have P18 : Hid _ := P17.out.below hb
  clear hb K17 P17 C
  have C := D8 _ P18.out
  go_wp2_with fail
  refine C.mono ?_; rintro e w19 ⟨rfl, hw⟩
  subst hw
  clear C
  go_wp2_with fail
  go_ret
  exact ⟨rfl, K18.out.below (by rw [HB.out]; exact Nat.le_refl _) (fun g hg => hg)⟩
end Go.Proofs.Ytbkgbojfjijalaa
