/- The walk of TablePlays where begin ends. The great seat's numbers. -/
import Derived.Test.YtonopchpnhninaaGreatCg43
import Derived.Test.YtonopchpnhninaaGreatCg34
namespace Go.Proofs.YtonopchpnhninaaGreat
open Go.RowKit

set_option maxRecDepth 20000 in
set_option maxHeartbeats 2000000 in
theorem tset_nil (k v : V) (w : World) : Calls Tryz.prog 9 #[.pointer none, vv k, vv v] w fun e w' => e = .returned (.int .i64 1) ∧ Below w.heap.size w w' := by
  have HB : Hid _ := b2 w (.cells #[.int .i64 k.1, .int .i64 k.2.1, .string k.2.2] 35) (.cells #[.int .i64 v.1, .int .i64 v.2.1, .string v.2.2] 35)
  unfold vv vl
  go_enter Tryz.func9, Tryz.ntmps9
  go_wp2
  go_ret
  exact ⟨rfl, HB.out⟩
set_option maxRecDepth 100000 in
set_option maxHeartbeats 8000000 in
theorem tl_lim (l x y : Int) (a : Option Addr) (L cap : Nat) (hL : L ≤ cap) (W : World) (hl : l < 0 ∨ 400000 < l) :
    Calls Tryz.prog 3 #[cv l x y (.slice a L cap)] W fun e w' => e = .returned (.bool true) ∧ Below W.heap.size W w' := by
  have CB := fun w => begin_lim l (cN x) (cN y) a (min L 300) cap w hl
  unfold cv at CB
  have CF := fun w => fixed_any w
  have CC := fun w => cut_any l x y a L cap hL w
  unfold cv at CC ⊢
  have R0 := R4.made W (.int .i64 l) (.int .i64 x) (.int .i64 y) (.slice a L cap) 24
  have B0 := b1 W (.cells #[.int .i64 l, .int .i64 x, .int .i64 y, .slice a L cap] 24)
  obtain ⟨W0, hW0⟩ : ∃ W0, W.alloc (.cells #[.int .i64 l, .int .i64 x, .int .i64 y, .slice a L cap] 24) = W0 := ⟨_, rfl⟩
  rw [hW0] at R0 B0
  have HR0 : Hid (R4 W0 W.heap.size (.int .i64 l) (.int .i64 x) (.int .i64 y) (.slice a L cap)) := R0
  have HB0 : Hid (Below W.heap.size W W0) := B0
  clear R0 B0
  generalize hX : W.heap.size = X at *
  have HX : Hid (W.heap.size = X) := hX
  go_enter Tryz.func3, Tryz.ntmps3
  go_wp2_with fail
  refine (CF _).mono ?_; rintro e w1 ⟨rfl, hb1⟩
  have R1 := HR0.out.below hb1
  have HB1 : Hid (Below X W w1) := bthen HB0.out (Nat.le_of_lt HR0.out.lt) hb1
  have HR1 : Hid (R4 w1 X (.int .i64 l) (.int .i64 x) (.int .i64 y) (.slice a L cap)) := R1
  have c0 := R1.c0
  have c1 := R1.c1
  have c2 := R1.c2
  have c3 := R1.c3
  clear hb1 R1 HR0 HB0 CF hW0
  go_wp2_with fail
  refine (CC _).mono ?_; rintro e w2 ⟨rfl, hb2⟩
  have R2 := HR1.out.below hb2
  have R3 := R2.set (.int .i64 l) (.int .i64 (cN x)) (.int .i64 (cN y)) (.slice a (min L 300) cap)
  have K3 := ((Keep.refl (fun g => g < X) w2).set4 (N := X) (Nat.lt_irrefl X) (.int .i64 l) (.int .i64 (cN x)) (.int .i64 (cN y)) (.slice a (min L 300) cap)).below (N := X) (Nat.le_of_lt R2.lt) (fun g q => q)
  obtain ⟨W3, hW3⟩ : ∃ W3, set4 w2 X (.int .i64 l) (.int .i64 (cN x)) (.int .i64 (cN y)) (.slice a (min L 300) cap) = W3 := ⟨_, rfl⟩
  rw [hW3] at R3 K3
  unfold set4 at hW3
  have HB3 : Hid (Below X W W3) := (bthen HB1.out (Nat.le_of_lt HR1.out.lt) hb2).trans K3
  have HR3 : Hid (R4 W3 X (.int .i64 l) (.int .i64 (cN x)) (.int .i64 (cN y)) (.slice a (min L 300) cap)) := R3
  have rc0 := R2.c0
  have rc1 := R2.c1
  have rc2 := R2.c2
  have rc3 := R2.c3
  have rcf := R2.fz
  have t0 := R3.c0
  have t1 := R3.c1
  have t2 := R3.c2
  have t3 := R3.c3
  clear hb2 R2 R3 K3 HB1 HR1 CC c0 c1 c2 c3
  go_wp2_with fail
  refine (CB _).mono ?_; rintro e w4 ⟨rfl, hb4⟩
  have HB4 : Hid (Below X W w4) := bthen HB3.out (Nat.le_of_lt HR3.out.lt) hb4
  have hX4 : X ≤ w4.heap.size := by have h1 := HR3.out.lt; have h2 := hb4.size; omega
  have HXs : Hid (X ≤ w4.heap.size) := hX4
  have CI := fun w => mkI 1 w
  have N1 := eql32 0 0 0 0 ⟨#[]⟩ ⟨#[]⟩
  have N2 := eql42 0 0 0 0 0 0 0 0
  simp only [decide_true, and_self] at N1 N2
  unfold vl at N1 CI
  unfold sv at N2
  have gd := guard32
  have CS := fun w => tset_nil (kn 1) (kn 1) w
  have CG := fun w => tget_nil (kn 1) w
  have CPl := fun w => place_nil (kn 1) w
  have CT := fun w => stats_nil w
  unfold vv vl kn at CS CG CPl
  unfold nil at CG
  unfold sv at CT
  clear hb4 hX4 CB
  go_wp2_with fail
  refine (CI _).mono ?_; rintro e w5 ⟨rfl, hb5⟩
  have HB5 : Hid (Below w4.heap.size w4 w5) := hb5
  clear hb5
  go_wp2_with fail
  refine (CI _).mono ?_; rintro e w6 ⟨rfl, hb6⟩
  have HB6 : Hid (Below w4.heap.size w4 w6) := bthen HB5.out HB5.out.size hb6
  clear hb6
  go_wp2_with fail
  refine (CS _).mono ?_; rintro e w7 ⟨rfl, hb7⟩
  have HB7 : Hid (Below w4.heap.size w4 w7) := bthen HB6.out HB6.out.size hb7
  clear hb7
  go_wp2_with fail
  refine (CI _).mono ?_; rintro e w8 ⟨rfl, hb8⟩
  have HB8 : Hid (Below w4.heap.size w4 w8) := bthen HB7.out HB7.out.size hb8
  clear hb8
  go_wp2_with fail
  refine (CG _).mono ?_; rintro e w9 ⟨rfl, hb9⟩
  have HB9 : Hid (Below w4.heap.size w4 w9) := bthen HB8.out HB8.out.size hb9
  clear hb9
  go_wp2_with fail
  refine (places_nil _).mono ?_; rintro e wa ⟨rfl, hwa⟩; rw [hwa]; clear hwa
  go_wp2_with fail
  refine (CI _).mono ?_; rintro e wb ⟨rfl, hbb⟩
  have HBb : Hid (Below w4.heap.size w4 wb) := bthen HB9.out HB9.out.size hbb
  clear hbb
  go_wp2_with fail
  refine (CPl _).mono ?_; rintro e wd ⟨rfl, hbd⟩
  have HBd : Hid (Below w4.heap.size w4 wd) := bthen HBb.out HBb.out.size hbd
  clear hbd
  go_wp2_with fail
  refine (probes_nil _).mono ?_; rintro e we ⟨rfl, hwe⟩; rw [hwe]; clear hwe
  go_wp2_with fail
  refine (CT _).mono ?_; rintro e wf ⟨rfl, hbf⟩
  have HBf : Hid (Below X W wf) := bthen HB4.out HXs.out (bthen HBd.out HBd.out.size hbf)
  clear hbf
  go_wp2_with fail
  go_ret
  exact ⟨rfl, HBf.out⟩
set_option maxRecDepth 100000 in
set_option maxHeartbeats 8000000 in
theorem tl_fail (l x y : Int) (a : Option Addr) (L cap : Nat) (hL : L ≤ cap) (W : World) (h0 : 0 ≤ l) (h1 : l ≤ 400000) (he : nE (H.newSt l) (cN x) (cN y) ≠ 0) :
    Calls Tryz.prog 3 #[cv l x y (.slice a L cap)] W fun e w' => e = .returned (.bool true) ∧ Below W.heap.size W w' := by
  have CB := fun w => begin_fail l (cN x) (cN y) a (min L 300) cap w h0 h1 he
  unfold cv at CB
  clear h0 h1 he
  have CF := fun w => fixed_any w
  have CC := fun w => cut_any l x y a L cap hL w
  unfold cv at CC ⊢
  have R0 := R4.made W (.int .i64 l) (.int .i64 x) (.int .i64 y) (.slice a L cap) 24
  have B0 := b1 W (.cells #[.int .i64 l, .int .i64 x, .int .i64 y, .slice a L cap] 24)
  obtain ⟨W0, hW0⟩ : ∃ W0, W.alloc (.cells #[.int .i64 l, .int .i64 x, .int .i64 y, .slice a L cap] 24) = W0 := ⟨_, rfl⟩
  rw [hW0] at R0 B0
  have HR0 : Hid (R4 W0 W.heap.size (.int .i64 l) (.int .i64 x) (.int .i64 y) (.slice a L cap)) := R0
  have HB0 : Hid (Below W.heap.size W W0) := B0
  clear R0 B0
  generalize hX : W.heap.size = X at *
  have HX : Hid (W.heap.size = X) := hX
  go_enter Tryz.func3, Tryz.ntmps3
  go_wp2_with fail
  refine (CF _).mono ?_; rintro e w1 ⟨rfl, hb1⟩
  have R1 := HR0.out.below hb1
  have HB1 : Hid (Below X W w1) := bthen HB0.out (Nat.le_of_lt HR0.out.lt) hb1
  have HR1 : Hid (R4 w1 X (.int .i64 l) (.int .i64 x) (.int .i64 y) (.slice a L cap)) := R1
  have c0 := R1.c0
  have c1 := R1.c1
  have c2 := R1.c2
  have c3 := R1.c3
  clear hb1 R1 HR0 HB0 CF hW0
  go_wp2_with fail
  refine (CC _).mono ?_; rintro e w2 ⟨rfl, hb2⟩
  have R2 := HR1.out.below hb2
  have R3 := R2.set (.int .i64 l) (.int .i64 (cN x)) (.int .i64 (cN y)) (.slice a (min L 300) cap)
  have K3 := ((Keep.refl (fun g => g < X) w2).set4 (N := X) (Nat.lt_irrefl X) (.int .i64 l) (.int .i64 (cN x)) (.int .i64 (cN y)) (.slice a (min L 300) cap)).below (N := X) (Nat.le_of_lt R2.lt) (fun g q => q)
  obtain ⟨W3, hW3⟩ : ∃ W3, set4 w2 X (.int .i64 l) (.int .i64 (cN x)) (.int .i64 (cN y)) (.slice a (min L 300) cap) = W3 := ⟨_, rfl⟩
  rw [hW3] at R3 K3
  unfold set4 at hW3
  have HB3 : Hid (Below X W W3) := (bthen HB1.out (Nat.le_of_lt HR1.out.lt) hb2).trans K3
  have HR3 : Hid (R4 W3 X (.int .i64 l) (.int .i64 (cN x)) (.int .i64 (cN y)) (.slice a (min L 300) cap)) := R3
  have rc0 := R2.c0
  have rc1 := R2.c1
  have rc2 := R2.c2
  have rc3 := R2.c3
  have rcf := R2.fz
  have t0 := R3.c0
  have t1 := R3.c1
  have t2 := R3.c2
  have t3 := R3.c3
  clear hb2 R2 R3 K3 HB1 HR1 CC c0 c1 c2 c3
  go_wp2_with fail
  refine (CB _).mono ?_; rintro e w4 ⟨S, rfl, hb4⟩
  have HB4 : Hid (Below X W w4) := bthen HB3.out (Nat.le_of_lt HR3.out.lt) hb4
  have hX4 : X ≤ w4.heap.size := by have h1 := HR3.out.lt; have h2 := hb4.size; omega
  have HXs : Hid (X ≤ w4.heap.size) := hX4
  have CI := fun w => mkI 1 w
  have N1 := eql32 0 0 0 0 ⟨#[]⟩ ⟨#[]⟩
  have N2 := eql42 0 0 0 0 0 0 0 0
  simp only [decide_true, and_self] at N1 N2
  unfold vl at N1 CI
  unfold sv at N2
  have gd := guard32
  have CS := fun w => tset_nil (kn 1) (kn 1) w
  have CG := fun w => tget_nil (kn 1) w
  have CPl := fun w => place_nil (kn 1) w
  have CT := fun w => stats_nil w
  unfold vv vl kn at CS CG CPl
  unfold nil at CG
  unfold sv at CT
  clear hb4 hX4 CB
  go_wp2_with fail
  refine (CI _).mono ?_; rintro e w5 ⟨rfl, hb5⟩
  have HB5 : Hid (Below w4.heap.size w4 w5) := hb5
  clear hb5
  go_wp2_with fail
  refine (CI _).mono ?_; rintro e w6 ⟨rfl, hb6⟩
  have HB6 : Hid (Below w4.heap.size w4 w6) := bthen HB5.out HB5.out.size hb6
  clear hb6
  go_wp2_with fail
  refine (CS _).mono ?_; rintro e w7 ⟨rfl, hb7⟩
  have HB7 : Hid (Below w4.heap.size w4 w7) := bthen HB6.out HB6.out.size hb7
  clear hb7
  go_wp2_with fail
  refine (CI _).mono ?_; rintro e w8 ⟨rfl, hb8⟩
  have HB8 : Hid (Below w4.heap.size w4 w8) := bthen HB7.out HB7.out.size hb8
  clear hb8
  go_wp2_with fail
  refine (CG _).mono ?_; rintro e w9 ⟨rfl, hb9⟩
  have HB9 : Hid (Below w4.heap.size w4 w9) := bthen HB8.out HB8.out.size hb9
  clear hb9
  go_wp2_with fail
  refine (places_nil _).mono ?_; rintro e wa ⟨rfl, hwa⟩; rw [hwa]; clear hwa
  go_wp2_with fail
  refine (CI _).mono ?_; rintro e wb ⟨rfl, hbb⟩
  have HBb : Hid (Below w4.heap.size w4 wb) := bthen HB9.out HB9.out.size hbb
  clear hbb
  go_wp2_with fail
  refine (CPl _).mono ?_; rintro e wd ⟨rfl, hbd⟩
  have HBd : Hid (Below w4.heap.size w4 wd) := bthen HBb.out HBb.out.size hbd
  clear hbd
  go_wp2_with fail
  refine (probes_nil _).mono ?_; rintro e we ⟨rfl, hwe⟩; rw [hwe]; clear hwe
  go_wp2_with fail
  refine (CT _).mono ?_; rintro e wf ⟨rfl, hbf⟩
  have HBf : Hid (Below X W wf) := bthen HB4.out HXs.out (bthen HBd.out HBd.out.size hbf)
  clear hbf
  go_wp2_with fail
  go_ret
  exact ⟨rfl, HBf.out⟩
end Go.Proofs.YtonopchpnhninaaGreat
