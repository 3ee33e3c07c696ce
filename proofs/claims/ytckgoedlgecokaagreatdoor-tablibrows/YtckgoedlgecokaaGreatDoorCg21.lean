/- The walk of Remove on a row. -/
import Derived.Test.YtckgoedlgecokaaGreatDoorCg20
namespace Go.Proofs.YtckgoedlgecokaaGreatDoor
open Go.RowKit
section
variable {No : Nat → Prop} {w : World} {T S hb c : Nat} {K : Nat} {l : List V}
set_option maxRecDepth 20000 in
set_option maxHeartbeats 4000000 in
theorem remove_ok (h : Tw No w T S hb c 1 K (rowf l)) (g : Gl l) (hc : c ≤ 400000) (hl : l.length ≤ K) (hK : K ≤ 1000) (p : Nat) (hp : p < l.length) (fuel : Int) (hf : (l.length : Int) - 1 - p ≤ fuel) (hf1 : fuel ≤ 1000000) :
    Calls Tryz.prog 17 #[tp T, .int .i64 ((p : Int) + 1), .int .i64 fuel] w fun e w' => e = .returned (.tuple #[vv (rowf l ((p : Int) + 1)), .int .i64 ((l.length : Int) - 1 - p), .int .i64 0]) ∧ Tw No w' T S hb (c + 200 + 8 * (l.length - p)) 1 K (rowf (l.eraseIdx p)) ∧ Keep No w w' := by
  obtain ⟨No2, h0, n1, n2, n3⟩ := h.box (vb 0 0 ⟨#[]⟩)
  have C := h0.len (by omega) (m := l.length) (by omega) fun x _ h1 => rowf_pres g x h1
  have HK : Hid (Keep No w (w.alloc (vb 0 0 ⟨#[]⟩)) ∧ (∀ g, No g → No2 g) ∧ No2 w.heap.size ∧ R3 (w.alloc (vb 0 0 ⟨#[]⟩)) w.heap.size nil ∧ ¬ No w.heap.size) := ⟨Keep.of (b1 _ _), n1, n2, R3.made w nil, n3⟩
  have HNo : Hid (∀ g, No g → g < w.heap.size) := fun g q => h.nos q
  have wl : IntKind.i64.wrap ((l.length : Int) + 1) = (l.length : Int) + 1 := by rw [IntKind.wrap_i64]; omega
  have f0 : ¬ fuel < 0 := by omega
  have d0 : decide (fuel < 0) = false := by simp; omega
  have d1 : decide (l.length < p) = false := by simp; omega
  have d2 : decide ((p : Int) + 1 < 1) = false := by simp; omega
  have d3 : ((l.length : Int) == 0) = false := beq_eq_false_iff_ne.2 (by omega)
  have d4 : (l.length == 0) = false := beq_eq_false_iff_ne.2 (by omega)
  have d5 : decide ((l.length : Int) < 9223372036854775807) = true := by simp; omega
  have d6 : ((p : Int) + 1 == (l.length : Int) + 1) = false := by simp; omega
  have d7 : (p == l.length) = false := by simp; omega
  have d8 : decide ((l.length : Int) < (p : Int) + 1) = false := by simp; omega
  have d9 : ¬ (p : Int) + 1 < 1 := by omega
  have d10 : ¬ (l.length : Int) < (p : Int) + 1 := by omega
  have d11 : (l.length : Int) < 9223372036854775807 := by omega
  clear h g h0 n1 n2 n3
  go_enter Tryz.func17, Tryz.ntmps17
  go_wp2_with fail
  refine C.mono ?_
  rintro e w1 ⟨rfl, t1, k1⟩
  have B1 : Hid (R3 w1 w.heap.size nil ∧ Keep No w w1) := ⟨HK.out.2.2.2.1.kept k1 HK.out.2.2.1, HK.out.1.trans (k1.sub HK.out.2.1)⟩
  have C2 := t1.get31 (by omega) ((p : Int) + 1) ⟨by omega, by omega⟩
  clear C k1 t1
  go_wp2_with fail
  refine C2.mono ?_
  rintro e w2 ⟨rfl, t2, k2⟩
  have B2 : Hid (R3 w2 w.heap.size nil ∧ Keep No w w2) := ⟨B1.out.1.kept k2 HK.out.2.2.1, B1.out.2.trans (k2.sub HK.out.2.1)⟩
  obtain ⟨xv, hxv⟩ : ∃ xv, rowf l ((p : Int) + 1) = xv := ⟨_, rfl⟩
  have HXV : Hid (rowf l ((p : Int) + 1) = xv) := hxv
  rw [hxv]
  clear C2 k2 B1 hxv
  have hz2 : w.heap.size < w2.heap.size := B2.out.1.bx.lt
  have k3 := b2 w2 (vb xv.1 xv.2.1 xv.2.2) (.cells #[.int .i64 fuel, .int .i64 0] 66)
  have e3 : ((w2.alloc (vb xv.1 xv.2.1 xv.2.2)).alloc (.cells #[.int .i64 fuel, .int .i64 0] 66)).heap.size = w2.heap.size + 1 + 1 := by simp
  have t3 := t2.news k3
  obtain ⟨No3, hNo3⟩ : ∃ No3, (fun g => No2 g ∨ (w2.heap.size ≤ g ∧ g < ((w2.alloc (vb xv.1 xv.2.1 xv.2.2)).alloc (.cells #[.int .i64 fuel, .int .i64 0] 66)).heap.size)) = No3 := ⟨_, rfl⟩
  have HX : Hid ((∀ g, No g → No3 g ∧ g ≠ w2.heap.size + 1) ∧ No3 (w2.heap.size + 1) ∧ (No3 w.heap.size ∧ w.heap.size ≠ w2.heap.size + 1) ∧ (No3 w2.heap.size ∧ w2.heap.size ≠ w2.heap.size + 1)) := by
    rw [← hNo3, e3]
    exact ⟨fun g q => ⟨.inl (HK.out.2.1 g q), by have := HNo.out g q; omega⟩, .inr ⟨by omega, by omega⟩, ⟨.inl HK.out.2.2.1, by omega⟩, .inr ⟨by omega, by omega⟩, by omega⟩
  rw [hNo3] at t3
  have sp := Sp.made (w2.alloc (vb xv.1 xv.2.1 xv.2.2)) fuel 66
  rw [show (w2.alloc (vb xv.1 xv.2.1 xv.2.2)).heap.size = w2.heap.size + 1 by simp] at sp
  have HI : Hid (Tw No3 ((w2.alloc (vb xv.1 xv.2.1 xv.2.2)).alloc (.cells #[.int .i64 fuel, .int .i64 0] 66)) T S hb (c + 130 + 1) 1 K (remF l ((p : Int) + 1) ((p : Int) + 1)) ∧ Sp ((w2.alloc (vb xv.1 xv.2.1 xv.2.2)).alloc (.cells #[.int .i64 fuel, .int .i64 0] 66)) (w2.heap.size + 1) fuel 0 ∧ Bx ((w2.alloc (vb xv.1 xv.2.1 xv.2.2)).alloc (.cells #[.int .i64 fuel, .int .i64 0] 66)) w2.heap.size xv ∧ R3 ((w2.alloc (vb xv.1 xv.2.1 xv.2.2)).alloc (.cells #[.int .i64 fuel, .int .i64 0] 66)) w.heap.size nil ∧ Keep No w ((w2.alloc (vb xv.1 xv.2.1 xv.2.2)).alloc (.cells #[.int .i64 fuel, .int .i64 0] 66))) :=
    ⟨by rw [remF_beg]; exact t3, sp, (Bx.made w2 xv).below (b1 _ _), B2.out.1.below k3, B2.out.2.bel k3⟩
  clear t2 t3 k3 e3 hNo3 sp B2
  unfold vb at HI
  go_wp2
  go_loopw [13] (fun iv wx => ∃ j : Nat, iv = .int .i64 (j : Nat) ∧ p + 1 ≤ j ∧ j ≤ l.length ∧ Hid (Tw No3 wx T S hb (c + 130 + 1 + 8 * (j - (p + 1))) 1 K (remF l ((p : Int) + 1) (j : Int)) ∧ Sp wx (w2.heap.size + 1) fuel ((j : Int) - ((p : Int) + 1)) ∧ Bx wx w2.heap.size xv ∧ R3 wx w.heap.size nil ∧ Keep No w wx)) (fun iv _ => l.length - (intOf iv).toNat)
  case atStart => exact ⟨p + 1, by go_num, Nat.le_refl _, by omega, by rw [Nat.sub_self, Nat.mul_zero, show ((p + 1 : Nat) : Int) = (p : Int) + 1 by omega]; exact HI.out.1, by rw [show ((p + 1 : Nat) : Int) - ((p : Int) + 1) = 0 by omega]; exact HI.out.2.1, HI.out.2.2⟩
  case round =>
    clear HI
    obtain ⟨j, rfl, hj1, hj2, HI⟩ := hrel
    by_cases hlt : j < l.length
    · have q1 : (j : Int) < (l.length : Int) := by omega
      have wj : IntKind.i64.wrap ((j : Int) + 1) = (j : Int) + 1 := by rw [IntKind.wrap_i64]; omega
      have C := carry_yes HI.out.1 HI.out.2.1 HX.out.2.1 (by omega) (by omega) (by omega) (by omega) ((j : Int) + 1) (j : Int) ⟨by omega, by omega⟩ ⟨by omega, by omega⟩ ⟨by omega, by omega⟩
      rw [remF_step l (by omega) (by omega) (by omega)] at C
      have hms : l.length - (j + 1) < l.length - j := by omega
      go_wp2_with fail
      refine C.mono ?_
      rintro e w3 ⟨rfl, t3, s3, k3⟩
      have HN : Hid (Tw No3 w3 T S hb (c + 130 + 1 + 8 * (j + 1 - (p + 1))) 1 K (remF l ((p : Int) + 1) ((j + 1 : Nat) : Int)) ∧ Sp w3 (w2.heap.size + 1) fuel (((j + 1 : Nat) : Int) - ((p : Int) + 1)) ∧ Bx w3 w2.heap.size xv ∧ R3 w3 w.heap.size nil ∧ Keep No w w3) := ⟨by rw [show ((j + 1 : Nat) : Int) = (j : Int) + 1 by omega]; exact t3.more (by omega), by rw [show ((j + 1 : Nat) : Int) - ((p : Int) + 1) = (j : Int) - ((p : Int) + 1) + 1 by omega]; exact s3, HI.out.2.2.1.kept k3 HX.out.2.2.2, HI.out.2.2.2.1.kept k3 HX.out.2.2.1, HI.out.2.2.2.2.trans (k3.sub HX.out.1)⟩
      clear C t3 s3 k3 HI
      go_wp2
      go_roundw
      case rel => exact ⟨j + 1, by go_num, by omega, by omega, HN⟩
      case measure => first | omega | (simp only [intOf]; omega) | (simp; omega)
    · have q1 : ¬ (j : Int) < (l.length : Int) := by omega
      have e0 : j = l.length := by omega
      subst e0
      have hm : max ((p : Int) + 1) (l.length : Int) = (l.length : Int) := by omega
      have C2 := HI.out.1.set29 (by omega) (l.length : Int) ⟨by omega, by omega⟩ nil (.inl rfl) (by kernel_rfl)
      rw [remF_end l p hp] at C2
      go_wp2_with fail
      refine C2.mono ?_
      rintro e w4 ⟨rfl, t4, k4⟩
      have H4 : Hid (Tw No3 w4 T S hb (c + 200 + 8 * (l.length - p)) 1 K (rowf (l.eraseIdx p)) ∧ Sp w4 (w2.heap.size + 1) fuel ((l.length : Int) - ((p : Int) + 1)) ∧ Bx w4 w2.heap.size xv ∧ R3 w4 w.heap.size nil ∧ Keep No w w4) := ⟨t4.more (by omega), HI.out.2.1.kept k4 HX.out.2.1, HI.out.2.2.1.kept k4 HX.out.2.2.2.1, HI.out.2.2.2.1.kept k4 HX.out.2.2.1.1, HI.out.2.2.2.2.trans (k4.sub fun g q => (HX.out.1 g q).1)⟩
      clear C2 t4 k4 HI hm
      have c1 := H4.out.2.1.c1
      have x0 := H4.out.2.2.1.c0
      have x1 := H4.out.2.2.1.c1
      have x2 := H4.out.2.2.1.c2
      have m0 := H4.out.2.2.2.1.bx.c0
      have m1 := H4.out.2.2.2.1.bx.c1
      have m2 := H4.out.2.2.2.1.bx.c2
      have nf := H4.out.2.2.2.1.fz
      have ne1 : ¬ w2.heap.size + 1 = w.heap.size := by omega
      have ne2 : ¬ w2.heap.size = w.heap.size := by omega
      have HW : Hid (Tw No (Go.Proofs.YtckgoedlgecokaaGreatDoor.set3 w4 w.heap.size xv).drew T S hb (c + 200 + 8 * (l.length - p)) 1 K (rowf (l.eraseIdx p)) ∧ R3 (Go.Proofs.YtckgoedlgecokaaGreatDoor.set3 w4 w.heap.size xv) w.heap.size xv ∧ Keep No w (Go.Proofs.YtckgoedlgecokaaGreatDoor.set3 w4 w.heap.size xv).drew) := ⟨((H4.out.1.set3 HX.out.2.2.1.1 xv).sub fun g q => (HX.out.1 g q).1).drew, H4.out.2.2.2.1.set xv, (H4.out.2.2.2.2.set3 HK.out.2.2.2.2 xv).drew⟩
      clear H4
      go_wp2_with fail
      go_region
      have R5 := HW.out.2.1.bx
      unfold Go.Proofs.YtckgoedlgecokaaGreatDoor.set3 at HW R5
      have r0 := R5.c0
      have r1 := R5.c1
      have r2 := R5.c2
      clear R5 c1 x0 x1 x2 m0 m1 m2 nf
      go_wp2_with fail
      exact bodyPost_ret (v := .tuple #[.agg #[.int .i64 xv.1, .int .i64 xv.2.1, .string xv.2.2], .int .i64 ((l.length : Int) - ((p : Int) + 1)), .int .i64 0]) (by simp [results, Tryz.results17, go_sem, r0, r1, r2]) rfl ⟨by rw [HXV.out, show (l.length : Int) - ((p : Int) + 1) = (l.length : Int) - 1 - p by omega], HW.out.1, HW.out.2.2⟩
end
end Go.Proofs.YtckgoedlgecokaaGreatDoor

/- The walk of Remove on a row, with too little fuel; of an empty row. -/
namespace Go.Proofs.YtckgoedlgecokaaGreatDoor
open Go.RowKit
section
variable {No : Nat → Prop} {w : World} {T S hb c : Nat} {K : Nat} {l : List V}
set_option maxRecDepth 20000 in
set_option maxHeartbeats 4000000 in
theorem remove_fuel (h : Tw No w T S hb c 1 K (rowf l)) (g : Gl l) (hc : c ≤ 400000) (hl : l.length ≤ K) (hK : K ≤ 1000) (p : Nat) (hp : p < l.length) (fuel : Int) (hf0 : 0 ≤ fuel) (hf : fuel < (l.length : Int) - 1 - p) :
    Calls Tryz.prog 17 #[tp T, .int .i64 ((p : Int) + 1), .int .i64 fuel] w fun e w' => e = .returned (.tuple #[vv nil, .int .i64 fuel, .int .i64 11]) ∧ (∃ f, Tw No w' T S hb (c + 9000) 1 K f) ∧ Keep No w w' := by
  obtain ⟨No2, h0, n1, n2, n3⟩ := h.box (vb 0 0 ⟨#[]⟩)
  have C := h0.len (by omega) (m := l.length) (by omega) fun x _ h1 => rowf_pres g x h1
  have HK : Hid (Keep No w (w.alloc (vb 0 0 ⟨#[]⟩)) ∧ (∀ g, No g → No2 g) ∧ No2 w.heap.size ∧ R3 (w.alloc (vb 0 0 ⟨#[]⟩)) w.heap.size nil ∧ ¬ No w.heap.size) := ⟨Keep.of (b1 _ _), n1, n2, R3.made w nil, n3⟩
  have HNo : Hid (∀ g, No g → g < w.heap.size) := fun g q => h.nos q
  have wl : IntKind.i64.wrap ((l.length : Int) + 1) = (l.length : Int) + 1 := by rw [IntKind.wrap_i64]; omega
  have f0 : ¬ fuel < 0 := by omega
  have d0 : decide (fuel < 0) = false := by simp; omega
  have d1 : decide (l.length < p) = false := by simp; omega
  have d2 : decide ((p : Int) + 1 < 1) = false := by simp; omega
  have d3 : ((l.length : Int) == 0) = false := beq_eq_false_iff_ne.2 (by omega)
  have d4 : (l.length == 0) = false := beq_eq_false_iff_ne.2 (by omega)
  have d5 : decide ((l.length : Int) < 9223372036854775807) = true := by simp; omega
  have d6 : ((p : Int) + 1 == (l.length : Int) + 1) = false := by simp; omega
  have d7 : (p == l.length) = false := by simp; omega
  have d8 : decide ((l.length : Int) < (p : Int) + 1) = false := by simp; omega
  have d9 : ¬ (p : Int) + 1 < 1 := by omega
  have d10 : ¬ (l.length : Int) < (p : Int) + 1 := by omega
  have d11 : (l.length : Int) < 9223372036854775807 := by omega
  clear h g h0 n1 n2 n3
  go_enter Tryz.func17, Tryz.ntmps17
  go_wp2_with fail
  refine C.mono ?_
  rintro e w1 ⟨rfl, t1, k1⟩
  have B1 : Hid (R3 w1 w.heap.size nil ∧ Keep No w w1) := ⟨HK.out.2.2.2.1.kept k1 HK.out.2.2.1, HK.out.1.trans (k1.sub HK.out.2.1)⟩
  have C2 := t1.get31 (by omega) ((p : Int) + 1) ⟨by omega, by omega⟩
  clear C k1 t1
  go_wp2_with fail
  refine C2.mono ?_
  rintro e w2 ⟨rfl, t2, k2⟩
  have B2 : Hid (R3 w2 w.heap.size nil ∧ Keep No w w2) := ⟨B1.out.1.kept k2 HK.out.2.2.1, B1.out.2.trans (k2.sub HK.out.2.1)⟩
  obtain ⟨xv, hxv⟩ : ∃ xv, rowf l ((p : Int) + 1) = xv := ⟨_, rfl⟩
  rw [hxv]
  clear C2 k2 B1 hxv
  have hz2 : w.heap.size < w2.heap.size := B2.out.1.bx.lt
  have k3 := b2 w2 (vb xv.1 xv.2.1 xv.2.2) (.cells #[.int .i64 fuel, .int .i64 0] 66)
  have e3 : ((w2.alloc (vb xv.1 xv.2.1 xv.2.2)).alloc (.cells #[.int .i64 fuel, .int .i64 0] 66)).heap.size = w2.heap.size + 1 + 1 := by simp
  have t3 := t2.news k3
  obtain ⟨No3, hNo3⟩ : ∃ No3, (fun g => No2 g ∨ (w2.heap.size ≤ g ∧ g < ((w2.alloc (vb xv.1 xv.2.1 xv.2.2)).alloc (.cells #[.int .i64 fuel, .int .i64 0] 66)).heap.size)) = No3 := ⟨_, rfl⟩
  have HX : Hid ((∀ g, No g → No3 g ∧ g ≠ w2.heap.size + 1) ∧ No3 (w2.heap.size + 1) ∧ (No3 w.heap.size ∧ w.heap.size ≠ w2.heap.size + 1) ∧ (No3 w2.heap.size ∧ w2.heap.size ≠ w2.heap.size + 1)) := by
    rw [← hNo3, e3]
    exact ⟨fun g q => ⟨.inl (HK.out.2.1 g q), by have := HNo.out g q; omega⟩, .inr ⟨by omega, by omega⟩, ⟨.inl HK.out.2.2.1, by omega⟩, .inr ⟨by omega, by omega⟩, by omega⟩
  rw [hNo3] at t3
  have sp := Sp.made (w2.alloc (vb xv.1 xv.2.1 xv.2.2)) fuel 66
  rw [show (w2.alloc (vb xv.1 xv.2.1 xv.2.2)).heap.size = w2.heap.size + 1 by simp] at sp
  have HI : Hid (Tw No3 ((w2.alloc (vb xv.1 xv.2.1 xv.2.2)).alloc (.cells #[.int .i64 fuel, .int .i64 0] 66)) T S hb (c + 130 + 1) 1 K (remF l ((p : Int) + 1) ((p : Int) + 1)) ∧ Sp ((w2.alloc (vb xv.1 xv.2.1 xv.2.2)).alloc (.cells #[.int .i64 fuel, .int .i64 0] 66)) (w2.heap.size + 1) fuel 0 ∧ Bx ((w2.alloc (vb xv.1 xv.2.1 xv.2.2)).alloc (.cells #[.int .i64 fuel, .int .i64 0] 66)) w2.heap.size xv ∧ R3 ((w2.alloc (vb xv.1 xv.2.1 xv.2.2)).alloc (.cells #[.int .i64 fuel, .int .i64 0] 66)) w.heap.size nil ∧ Keep No w ((w2.alloc (vb xv.1 xv.2.1 xv.2.2)).alloc (.cells #[.int .i64 fuel, .int .i64 0] 66))) :=
    ⟨by rw [remF_beg]; exact t3, sp, (Bx.made w2 xv).below (b1 _ _), B2.out.1.below k3, B2.out.2.bel k3⟩
  clear t2 t3 k3 e3 hNo3 sp B2
  unfold vb at HI
  go_wp2
  go_loopw [13] (fun iv wx => ∃ j : Nat, iv = .int .i64 (j : Nat) ∧ p + 1 ≤ j ∧ (j : Int) - ((p : Int) + 1) ≤ fuel ∧ Hid (Tw No3 wx T S hb (c + 130 + 1 + 8 * (j - (p + 1))) 1 K (remF l ((p : Int) + 1) (j : Int)) ∧ Sp wx (w2.heap.size + 1) fuel ((j : Int) - ((p : Int) + 1)) ∧ Bx wx w2.heap.size xv ∧ R3 wx w.heap.size nil ∧ Keep No w wx)) (fun iv _ => l.length - (intOf iv).toNat)
  case atStart => exact ⟨p + 1, by go_num, Nat.le_refl _, by omega, by rw [Nat.sub_self, Nat.mul_zero, show ((p + 1 : Nat) : Int) = (p : Int) + 1 by omega]; exact HI.out.1, by rw [show ((p + 1 : Nat) : Int) - ((p : Int) + 1) = 0 by omega]; exact HI.out.2.1, HI.out.2.2⟩
  case round =>
    clear HI
    obtain ⟨j, rfl, hj1, hj2, HI⟩ := hrel
    have q1 : (j : Int) < (l.length : Int) := by omega
    have wj : IntKind.i64.wrap ((j : Int) + 1) = (j : Int) + 1 := by rw [IntKind.wrap_i64]; omega
    by_cases hlt : (j : Int) - ((p : Int) + 1) < fuel
    · have C := carry_yes HI.out.1 HI.out.2.1 HX.out.2.1 (by omega) (by omega) (by omega) (by omega) ((j : Int) + 1) (j : Int) ⟨by omega, by omega⟩ ⟨by omega, by omega⟩ ⟨by omega, by omega⟩
      rw [remF_step l (by omega) (by omega) (by omega)] at C
      have hms : l.length - (j + 1) < l.length - j := by omega
      go_wp2_with fail
      refine C.mono ?_
      rintro e w3 ⟨rfl, t3, s3, k3⟩
      have HN : Hid (Tw No3 w3 T S hb (c + 130 + 1 + 8 * (j + 1 - (p + 1))) 1 K (remF l ((p : Int) + 1) ((j + 1 : Nat) : Int)) ∧ Sp w3 (w2.heap.size + 1) fuel (((j + 1 : Nat) : Int) - ((p : Int) + 1)) ∧ Bx w3 w2.heap.size xv ∧ R3 w3 w.heap.size nil ∧ Keep No w w3) := ⟨by rw [show ((j + 1 : Nat) : Int) = (j : Int) + 1 by omega]; exact t3.more (by omega), by rw [show ((j + 1 : Nat) : Int) - ((p : Int) + 1) = (j : Int) - ((p : Int) + 1) + 1 by omega]; exact s3, HI.out.2.2.1.kept k3 HX.out.2.2.2, HI.out.2.2.2.1.kept k3 HX.out.2.2.1, HI.out.2.2.2.2.trans (k3.sub HX.out.1)⟩
      clear C t3 s3 k3 HI
      go_wp2
      go_roundw
      case rel => exact ⟨j + 1, by go_num, by omega, by omega, HN⟩
      case measure => first | omega | (simp only [intOf]; omega) | (simp; omega)
    · have e0 : (j : Int) - ((p : Int) + 1) = fuel := by omega
      have S1 := HI.out.2.1
      rw [e0] at S1
      have C := carry_no (tp T) (tp T) ((j : Int) + 1) (j : Int) S1
      have c1 := S1.c1
      have m0 := HI.out.2.2.2.1.bx.c0
      have m1 := HI.out.2.2.2.1.bx.c1
      have m2 := HI.out.2.2.2.1.bx.c2
      have nf := HI.out.2.2.2.1.fz
      have ne1 : ¬ w2.heap.size + 1 = w.heap.size := by omega
      have HW : Hid (Tw No (Go.Proofs.YtckgoedlgecokaaGreatDoor.set3 wr w.heap.size nil).drew.drew T S hb (c + 9000) 1 K (remF l ((p : Int) + 1) (j : Int)) ∧ R3 (Go.Proofs.YtckgoedlgecokaaGreatDoor.set3 wr w.heap.size nil) w.heap.size nil ∧ Keep No w (Go.Proofs.YtckgoedlgecokaaGreatDoor.set3 wr w.heap.size nil).drew.drew) := ⟨(((HI.out.1.more (by omega)).set3 HX.out.2.2.1.1 nil).sub fun g q => (HX.out.1 g q).1).drew.drew, HI.out.2.2.2.1.set nil, (HI.out.2.2.2.2.set3 HK.out.2.2.2.2 nil).drew.drew⟩
      clear S1 HI e0
      go_wp2_with fail
      refine C.mono ?_
      rintro e w3 ⟨rfl, rfl⟩
      clear C
      go_wp2_with fail
      go_region
      have R5 := HW.out.2.1.bx
      unfold Go.Proofs.YtckgoedlgecokaaGreatDoor.set3 nil at HW R5
      simp only at HW R5
      have r0 := R5.c0
      have r1 := R5.c1
      have r2 := R5.c2
      clear R5 c1 m0 m1 m2 nf
      go_wp2_with fail
      exact bodyPost_ret (v := .tuple #[.agg #[.int .i64 0, .int .i64 0, .string ⟨#[]⟩], .int .i64 fuel, .int .i64 11]) (by simp [results, Tryz.results17, go_sem, r0, r1, r2]) rfl ⟨rfl, ⟨_, HW.out.1⟩, HW.out.2.2⟩
end
end Go.Proofs.YtckgoedlgecokaaGreatDoor
