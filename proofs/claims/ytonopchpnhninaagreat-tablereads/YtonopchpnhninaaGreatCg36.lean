/- The walk of TableReads where begin ends. The great seat's numbers. -/
import Derived.Test.YtonopchpnhninaaGreatCg33
import Derived.Test.YtonopchpnhninaaGreatCg34
import Derived.ShutString
import Derived.ChangeMaps5
namespace Go.Proofs.YtonopchpnhninaaGreat
open Go.RowKit

set_option maxRecDepth 100000 in
set_option maxHeartbeats 8000000 in
theorem tr_lim (l x y : Int) (a : Option Addr) (L cap : Nat) (hL : L ≤ cap) (kq : V) (W : World) (hl : l < 0 ∨ 400000 < l) :
    Calls Tryz.prog 4 #[cv l x y (.slice a L cap), vv kq] W fun e w' => e = .returned (.bool true) ∧ Below W.heap.size W w' := by
  have CB := fun w => begin_lim l (cN x) (cN y) a (min L 300) cap w hl
  unfold cv at CB
  have CF := fun w => fixed_any w
  have CC := fun w => cut_any l x y a L cap hL w
  unfold cv at CC ⊢
  unfold vv vl
  have R0 := (R4.made W (.int .i64 l) (.int .i64 x) (.int .i64 y) (.slice a L cap) 24).below (b1 _ (.cells #[.int .i64 kq.1, .int .i64 kq.2.1, .string kq.2.2] 35))
  have K0 := Bx.made (W.alloc (.cells #[.int .i64 l, .int .i64 x, .int .i64 y, .slice a L cap] 24)) kq
  rw [show (W.alloc (.cells #[.int .i64 l, .int .i64 x, .int .i64 y, .slice a L cap] 24)).heap.size = W.heap.size + 1 by simp] at K0
  have B0 := b2 W (.cells #[.int .i64 l, .int .i64 x, .int .i64 y, .slice a L cap] 24) (.cells #[.int .i64 kq.1, .int .i64 kq.2.1, .string kq.2.2] 35)
  unfold vb at K0
  obtain ⟨W0, hW0⟩ : ∃ W0, (W.alloc (.cells #[.int .i64 l, .int .i64 x, .int .i64 y, .slice a L cap] 24)).alloc (.cells #[.int .i64 kq.1, .int .i64 kq.2.1, .string kq.2.2] 35) = W0 := ⟨_, rfl⟩
  rw [hW0] at R0 B0 K0
  have HK0 : Hid (Bx W0 (W.heap.size + 1) kq) := K0
  have HR0 : Hid (R4 W0 W.heap.size (.int .i64 l) (.int .i64 x) (.int .i64 y) (.slice a L cap)) := R0
  have HB0 : Hid (Below W.heap.size W W0) := B0
  clear R0 B0 K0
  generalize hX : W.heap.size = X at *
  have HX : Hid (W.heap.size = X) := hX
  have hX2 : (W.alloc (.cells #[.int .i64 l, .int .i64 x, .int .i64 y, .slice a L cap] 24)).heap.size = X + 1 := by rw [← hX]; simp
  go_enter Tryz.func4, Tryz.ntmps4
  go_wp2_with fail
  refine (CF _).mono ?_; rintro e w1 ⟨rfl, hb1⟩
  have R1 := HR0.out.below hb1
  have HB1 : Hid (Below X W w1) := bthen HB0.out (Nat.le_of_lt HR0.out.lt) hb1
  have HR1 : Hid (R4 w1 X (.int .i64 l) (.int .i64 x) (.int .i64 y) (.slice a L cap)) := R1
  have HK1 : Hid (Bx w1 (X + 1) kq) := HK0.out.below hb1
  have c0 := R1.c0
  have c1 := R1.c1
  have c2 := R1.c2
  have c3 := R1.c3
  clear hb1 R1 HR0 HB0 CF hW0 HK0 hX2
  go_wp2_with fail
  refine (CC _).mono ?_; rintro e w2 ⟨rfl, hb2⟩
  have R2 := HR1.out.below hb2
  have R3 := R2.set (.int .i64 l) (.int .i64 (cN x)) (.int .i64 (cN y)) (.slice a (min L 300) cap)
  have KX := (Keep.refl (fun g => g ≠ X) w2).set4 (N := X) (fun q => q rfl) (.int .i64 l) (.int .i64 (cN x)) (.int .i64 (cN y)) (.slice a (min L 300) cap)
  have K3 := ((Keep.refl (fun g => g < X) w2).set4 (N := X) (Nat.lt_irrefl X) (.int .i64 l) (.int .i64 (cN x)) (.int .i64 (cN y)) (.slice a (min L 300) cap)).below (N := X) (Nat.le_of_lt R2.lt) (fun g q => q)
  obtain ⟨W3, hW3⟩ : ∃ W3, set4 w2 X (.int .i64 l) (.int .i64 (cN x)) (.int .i64 (cN y)) (.slice a (min L 300) cap) = W3 := ⟨_, rfl⟩
  rw [hW3] at R3 K3 KX
  unfold set4 at hW3
  have HB3 : Hid (Below X W W3) := (bthen HB1.out (Nat.le_of_lt HR1.out.lt) hb2).trans K3
  have HR3 : Hid (R4 W3 X (.int .i64 l) (.int .i64 (cN x)) (.int .i64 (cN y)) (.slice a (min L 300) cap)) := R3
  have HK3 : Hid (Bx W3 (X + 1) kq) := (HK1.out.below hb2).kept (No := fun g => g ≠ X) KX (by show X + 1 ≠ X; omega)
  have rc0 := R2.c0
  have rc1 := R2.c1
  have rc2 := R2.c2
  have rc3 := R2.c3
  have rcf := R2.fz
  have t0 := R3.c0
  have t1 := R3.c1
  have t2 := R3.c2
  have t3 := R3.c3
  clear hb2 R2 R3 K3 HB1 HR1 CC c0 c1 c2 c3 KX HK1
  go_wp2_with fail
  refine (CB _).mono ?_; rintro e w4 ⟨rfl, hb4⟩
  have HB4 : Hid (Below X W w4) := bthen HB3.out (Nat.le_of_lt HR3.out.lt) hb4
  clear hb4
  go_wp2_with fail
  go_ret
  exact ⟨rfl, HB4.out⟩
set_option maxRecDepth 100000 in
set_option maxHeartbeats 8000000 in
theorem tr_fail (l x y : Int) (a : Option Addr) (L cap : Nat) (hL : L ≤ cap) (kq : V) (W : World) (h0 : 0 ≤ l) (h1 : l ≤ 400000) (he : nE (H.newSt l) (cN x) (cN y) ≠ 0) :
    Calls Tryz.prog 4 #[cv l x y (.slice a L cap), vv kq] W fun e w' => e = .returned (.bool true) ∧ Below W.heap.size W w' := by
  have CB := fun w => begin_fail l (cN x) (cN y) a (min L 300) cap w h0 h1 he
  unfold cv at CB
  clear h0 h1 he
  have CF := fun w => fixed_any w
  have CC := fun w => cut_any l x y a L cap hL w
  unfold cv at CC ⊢
  unfold vv vl
  have R0 := (R4.made W (.int .i64 l) (.int .i64 x) (.int .i64 y) (.slice a L cap) 24).below (b1 _ (.cells #[.int .i64 kq.1, .int .i64 kq.2.1, .string kq.2.2] 35))
  have K0 := Bx.made (W.alloc (.cells #[.int .i64 l, .int .i64 x, .int .i64 y, .slice a L cap] 24)) kq
  rw [show (W.alloc (.cells #[.int .i64 l, .int .i64 x, .int .i64 y, .slice a L cap] 24)).heap.size = W.heap.size + 1 by simp] at K0
  have B0 := b2 W (.cells #[.int .i64 l, .int .i64 x, .int .i64 y, .slice a L cap] 24) (.cells #[.int .i64 kq.1, .int .i64 kq.2.1, .string kq.2.2] 35)
  unfold vb at K0
  obtain ⟨W0, hW0⟩ : ∃ W0, (W.alloc (.cells #[.int .i64 l, .int .i64 x, .int .i64 y, .slice a L cap] 24)).alloc (.cells #[.int .i64 kq.1, .int .i64 kq.2.1, .string kq.2.2] 35) = W0 := ⟨_, rfl⟩
  rw [hW0] at R0 B0 K0
  have HK0 : Hid (Bx W0 (W.heap.size + 1) kq) := K0
  have HR0 : Hid (R4 W0 W.heap.size (.int .i64 l) (.int .i64 x) (.int .i64 y) (.slice a L cap)) := R0
  have HB0 : Hid (Below W.heap.size W W0) := B0
  clear R0 B0 K0
  generalize hX : W.heap.size = X at *
  have HX : Hid (W.heap.size = X) := hX
  have hX2 : (W.alloc (.cells #[.int .i64 l, .int .i64 x, .int .i64 y, .slice a L cap] 24)).heap.size = X + 1 := by rw [← hX]; simp
  go_enter Tryz.func4, Tryz.ntmps4
  go_wp2_with fail
  refine (CF _).mono ?_; rintro e w1 ⟨rfl, hb1⟩
  have R1 := HR0.out.below hb1
  have HB1 : Hid (Below X W w1) := bthen HB0.out (Nat.le_of_lt HR0.out.lt) hb1
  have HR1 : Hid (R4 w1 X (.int .i64 l) (.int .i64 x) (.int .i64 y) (.slice a L cap)) := R1
  have HK1 : Hid (Bx w1 (X + 1) kq) := HK0.out.below hb1
  have c0 := R1.c0
  have c1 := R1.c1
  have c2 := R1.c2
  have c3 := R1.c3
  clear hb1 R1 HR0 HB0 CF hW0 HK0 hX2
  go_wp2_with fail
  refine (CC _).mono ?_; rintro e w2 ⟨rfl, hb2⟩
  have R2 := HR1.out.below hb2
  have R3 := R2.set (.int .i64 l) (.int .i64 (cN x)) (.int .i64 (cN y)) (.slice a (min L 300) cap)
  have KX := (Keep.refl (fun g => g ≠ X) w2).set4 (N := X) (fun q => q rfl) (.int .i64 l) (.int .i64 (cN x)) (.int .i64 (cN y)) (.slice a (min L 300) cap)
  have K3 := ((Keep.refl (fun g => g < X) w2).set4 (N := X) (Nat.lt_irrefl X) (.int .i64 l) (.int .i64 (cN x)) (.int .i64 (cN y)) (.slice a (min L 300) cap)).below (N := X) (Nat.le_of_lt R2.lt) (fun g q => q)
  obtain ⟨W3, hW3⟩ : ∃ W3, set4 w2 X (.int .i64 l) (.int .i64 (cN x)) (.int .i64 (cN y)) (.slice a (min L 300) cap) = W3 := ⟨_, rfl⟩
  rw [hW3] at R3 K3 KX
  unfold set4 at hW3
  have HB3 : Hid (Below X W W3) := (bthen HB1.out (Nat.le_of_lt HR1.out.lt) hb2).trans K3
  have HR3 : Hid (R4 W3 X (.int .i64 l) (.int .i64 (cN x)) (.int .i64 (cN y)) (.slice a (min L 300) cap)) := R3
  have HK3 : Hid (Bx W3 (X + 1) kq) := (HK1.out.below hb2).kept (No := fun g => g ≠ X) KX (by show X + 1 ≠ X; omega)
  have rc0 := R2.c0
  have rc1 := R2.c1
  have rc2 := R2.c2
  have rc3 := R2.c3
  have rcf := R2.fz
  have t0 := R3.c0
  have t1 := R3.c1
  have t2 := R3.c2
  have t3 := R3.c3
  clear hb2 R2 R3 K3 HB1 HR1 CC c0 c1 c2 c3 KX HK1
  go_wp2_with fail
  refine (CB _).mono ?_; rintro e w4 ⟨S, rfl, hb4⟩
  have HB4 : Hid (Below X W w4) := bthen HB3.out (Nat.le_of_lt HR3.out.lt) hb4
  clear hb4
  go_wp2_with fail
  go_ret
  exact ⟨rfl, HB4.out⟩
end Go.Proofs.YtonopchpnhninaaGreat

/- How a value as plain data is read: its three fields. -/
namespace Go.Proofs.YtonopchpnhninaaGreat
open Go.RowKit Go.ChangeShapes Go.WideShapes Go.Deep

set_option maxRecDepth 20000 in
theorem open_val {H : Type} {enc : TypeId × Value → H} {W : World} {base b0 : Nat} {sp : Nat → Bool} {held : Bool} {r : Reach} {v : Value} {d : DataW H} {ps : List MemPlace}
    (hval : Value.okWide Tryz.prog W r b0 35 v) (hd : DataW.Trod enc Tryz.prog W base sp held 35 v d ps) :
    ∃ (k n : Int) (s : ByteArray), v = vl k n s ∧ d = .agg [.lit (.int .i64 k), .lit (.int .i64 n), .lit (.string s.data.toList)] ∧ ps = [] ∧ (Lit.int .i64 k).wf = true ∧ (Lit.int .i64 n).wf = true ∧ s.size ≤ maxLen := by
  obtain ⟨cs, rfl, h2⟩ := okWide_struct Tryz.underlying35 hval
  rw [cells34] at h2
  obtain ⟨l⟩ := cs
  obtain ⟨c0, c1, c2, rfl⟩ : ∃ c0 c1 c2, l = [c0, c1, c2] := by
    match l, h2 with
    | [c0, c1, c2], _ => exact ⟨c0, c1, c2, rfl⟩
  obtain ⟨fuel, hf⟩ := hd
  obtain ⟨y0, y1, y2, m, hx, _, t0, t1, t2⟩ := trod_struct3 Tryz.underlying35 hf
  obtain ⟨k, e0, f0, g0⟩ := DataW.trod_int Tryz.underlying3 t0
  obtain ⟨n, e1, f1, g1⟩ := DataW.trod_int Tryz.underlying3 t1
  obtain ⟨s, e2, f2, g2⟩ := DataW.trod_string Tryz.underlying9 t2
  subst f0 f1 f2
  simp only [Prod.mk.injEq] at hx
  obtain ⟨rfl, rfl⟩ := hx
  simp [Value.cells, cells3, cells9] at e0 e1 e2
  subst e0 e1 e2
  exact ⟨k, n, s, rfl, rfl, rfl, g0, g1, g2⟩

set_option maxRecDepth 20000 in
theorem shut_val {H : Type} {enc : TypeId × Value → H} {W : World} {base : Nat} {sp : Nat → Bool} {held : Bool} {k n : Int} {s : ByteArray} (h0 : (Lit.int .i64 k).wf = true) (h1 : (Lit.int .i64 n).wf = true) (h2 : s.size ≤ maxLen) :
    DataW.Trod enc Tryz.prog W base sp held 35 (vl k n s) (.agg [.lit (.int .i64 k), .lit (.int .i64 n), .lit (.string s.data.toList)]) [] := by
  have := trod_struct3_mk (enc := enc) (w := W) (base := base) (spare := sp) (held := held) (n := 1) (cs := [.int .i64 k, .int .i64 n, .string s]) (y0 := (.lit (.int .i64 k), [])) (y1 := (.lit (.int .i64 n), [])) (y2 := (.lit (.string s.data.toList), []))
    Tryz.underlying35 (by rw [cells34]; rfl) (by simp [DataW.trod, Tryz.underlying3, cells3, h0]) (by simp [DataW.trod, Tryz.underlying3, cells3, h1]) (by simp [DataW.trod, Tryz.underlying9, cells9, h2])
  exact ⟨2, by simpa [Value.cells] using this⟩

end Go.Proofs.YtonopchpnhninaaGreat
