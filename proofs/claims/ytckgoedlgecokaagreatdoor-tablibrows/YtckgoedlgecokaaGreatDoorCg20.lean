/- The walk of Insert on a row. -/
import Derived.Test.YtckgoedlgecokaaGreatDoorCg19
namespace Go.Proofs.YtckgoedlgecokaaGreatDoor
open Go.RowKit
section
variable {No : Nat → Prop} {w : World} {T S hb c : Nat} {K : Nat} {l : List V}
theorem Sp.made (w : World) (fuel : Int) (t : TypeId) : Sp (w.alloc (.cells #[.int .i64 fuel, .int .i64 0] t)) w.heap.size fuel 0 := by
  have h := (MapKept.heap_alloc w (.cells #[.int .i64 fuel, .int .i64 0] t)).1
  exact ⟨cell_of_row h 0, cell_of_row h 1, fun j => new_free w _ _ j, by simp⟩
set_option maxRecDepth 20000 in
set_option maxHeartbeats 4000000 in
theorem insert_ok (h : Tw No w T S hb c 1 K (rowf l)) (g : Gl l) (hc : c ≤ 400000) (hl : l.length < K) (hK : K ≤ 1000) (p : Nat) (hp : p ≤ l.length) (v : V) (hv : Gv v) (fuel : Int) (hf : (l.length : Int) - p ≤ fuel) (hf1 : fuel ≤ 1000000) :
    Calls Tryz.prog 14 #[tp T, .int .i64 ((p : Int) + 1), vv v, .int .i64 fuel] w fun e w' => e = .returned (.tuple #[.int .i64 ((l.length : Int) - p), .int .i64 0]) ∧ Tw No w' T S hb (c + 9000) 1 K (rowf (insL l p v)) ∧ Keep No w w' := by
  obtain ⟨No2, h0, n1, n2, _⟩ := h.box (vb v.1 v.2.1 v.2.2)
  have C := h0.len (by omega) (m := l.length) (by omega) fun x _ h1 => rowf_pres g x h1
  have HK : Hid (Keep No w (w.alloc (vb v.1 v.2.1 v.2.2)) ∧ (∀ g, No g → No2 g) ∧ No2 w.heap.size ∧ Bx (w.alloc (vb v.1 v.2.1 v.2.2)) w.heap.size v) := ⟨Keep.of (b1 _ _), n1, n2, Bx.made w v⟩
  have hne : ((l.length : Int) == 9223372036854775807) = false := by simp; omega
  have wl : IntKind.i64.wrap ((l.length : Int) + 1) = (l.length : Int) + 1 := by rw [IntKind.wrap_i64]; omega
  have f0 : ¬ fuel < 0 := by omega
  have p0 : ¬ (p : Int) + 1 < 1 := by omega
  have p1 : ¬ (l.length : Int) + 1 < (p : Int) + 1 := by omega
  have d1 : decide (l.length < p) = false := by simp; omega
  have d2 : decide ((p : Int) + 1 < 1) = false := by simp; omega
  have HNo : Hid (∀ g, No g → g < w.heap.size) := fun g q => h.nos q
  clear h g h0 n1 n2
  go_enter Tryz.func14, Tryz.ntmps14
  go_wp2_with fail
  refine C.mono ?_
  rintro e w1 ⟨rfl, t1, k1⟩
  have B1 : Hid (Bx w1 w.heap.size v ∧ Keep No w w1) := ⟨HK.out.2.2.2.kept k1 HK.out.2.2.1, HK.out.1.trans (k1.sub HK.out.2.1)⟩
  have hz1 : w.heap.size < w1.heap.size := B1.out.1.lt
  obtain ⟨No3, t2, m1, m2, _⟩ := t1.box (.cells #[.int .i64 fuel, .int .i64 0] 66)
  have k2 := b1 w1 (.cells #[.int .i64 fuel, .int .i64 0] 66)
  have HX : Hid ((∀ g, No g → No3 g ∧ g ≠ w1.heap.size) ∧ No3 w1.heap.size ∧ (No3 w.heap.size ∧ w.heap.size ≠ w1.heap.size)) := ⟨fun g q => ⟨m1 g (HK.out.2.1 g q), by have := HNo.out g q; omega⟩, m2, m1 _ HK.out.2.2.1, by omega⟩
  have HI : Hid (Tw No3 (w1.alloc (.cells #[.int .i64 fuel, .int .i64 0] 66)) T S hb (c + 130) 1 K (insF l (l.length : Int)) ∧ Sp (w1.alloc (.cells #[.int .i64 fuel, .int .i64 0] 66)) w1.heap.size fuel 0 ∧ Bx (w1.alloc (.cells #[.int .i64 fuel, .int .i64 0] 66)) w.heap.size v ∧ Keep No w (w1.alloc (.cells #[.int .i64 fuel, .int .i64 0] 66))) := ⟨by rw [insF_top]; exact t2, Sp.made w1 fuel 66, B1.out.1.below k2, B1.out.2.bel k2⟩
  clear C k1 t1 t2 m1 m2 k2 B1 HK
  go_wp2
  go_loopw [12] (fun iv wx => ∃ j : Nat, iv = .int .i64 (j : Nat) ∧ p ≤ j ∧ j ≤ l.length ∧ Hid (Tw No3 wx T S hb (c + 130 + 8 * (l.length - j)) 1 K (insF l (j : Int)) ∧ Sp wx w1.heap.size fuel ((l.length : Int) - j) ∧ Bx wx w.heap.size v ∧ Keep No w wx)) (fun iv _ => (intOf iv).toNat)
  case atStart => exact ⟨l.length, rfl, hp, Nat.le_refl _, by rw [Nat.sub_self, Nat.mul_zero]; exact HI.out.1, by rw [Int.sub_self]; exact HI.out.2.1, HI.out.2.2⟩
  case round =>
    clear HI
    obtain ⟨j, rfl, hj1, hj2, HI⟩ := hrel
    by_cases hlt : p < j
    · have q1 : (p : Int) + 1 ≤ (j : Int) := by omega
      have wj : IntKind.i64.wrap ((j : Int) + 1) = (j : Int) + 1 := by rw [IntKind.wrap_i64]; omega
      have wj2 : IntKind.i64.wrap ((j : Int) - 1) = (j : Int) - 1 := by rw [IntKind.wrap_i64]; omega
      have C := carry_yes HI.out.1 HI.out.2.1 HX.out.2.1 (by omega) (by omega) (by omega) (by omega) (j : Int) ((j : Int) + 1) ⟨by omega, by omega⟩ ⟨by omega, by omega⟩ ⟨by omega, by omega⟩
      rw [insF_step l (by omega) (by omega)] at C
      go_wp2_with fail
      refine C.mono ?_
      rintro e w3 ⟨rfl, t3, s3, k3⟩
      have HN : Hid (Tw No3 w3 T S hb (c + 130 + 8 * (l.length - (j - 1))) 1 K (insF l ((j - 1 : Nat) : Int)) ∧ Sp w3 w1.heap.size fuel ((l.length : Int) - ((j - 1 : Nat) : Int)) ∧ Bx w3 w.heap.size v ∧ Keep No w w3) := ⟨by rw [show ((j - 1 : Nat) : Int) = (j : Int) - 1 by omega]; exact t3.more (by omega), by rw [show (l.length : Int) - ((j - 1 : Nat) : Int) = (l.length : Int) - j + 1 by omega]; exact s3, HI.out.2.2.1.kept k3 HX.out.2.2, HI.out.2.2.2.trans (k3.sub HX.out.1)⟩
      clear C t3 s3 k3 HI
      go_wp2
      go_roundw
      case rel => exact ⟨j - 1, by congr 1; omega, by omega, by omega, HN⟩
      case measure => simp [intOf]; omega
    · have q1 : ¬ (p : Int) + 1 ≤ (j : Int) := by omega
      have e0 : j = p := by omega
      subst e0
      have c1 := HI.out.2.1.c1
      have x0 := HI.out.2.2.1.c0
      have x1 := HI.out.2.2.1.c1
      have x2 := HI.out.2.2.1.c2
      have C2 := HI.out.1.drew.set29 (by omega) ((j : Int) + 1) ⟨by omega, by omega⟩ v (.inr ⟨by omega, by omega⟩) hv.1
      rw [insF_end l j v hp] at C2
      go_wp2_with fail
      go_region_with (go_at_call 29; refine C2.mono ?_; rintro e w4 ⟨rfl, t4, k4⟩; have s4 := (HI.out.2.1.drew.kept k4 HX.out.2.1).c1; have H4 : Hid (Tw No w4 T S hb (c + 9000) 1 K (rowf (insL l j v)) ∧ Keep No w w4) := ⟨(t4.sub fun g q => (HX.out.1 g q).1).more (by omega), HI.out.2.2.2.drew.trans (k4.sub fun g q => (HX.out.1 g q).1)⟩; clear t4 k4)
      all_goals (go_wp2; go_ret2; exact ⟨rfl, H4.out⟩)
end
end Go.Proofs.YtckgoedlgecokaaGreatDoor

/- The walk of Insert on a row, with too little fuel. -/
namespace Go.Proofs.YtckgoedlgecokaaGreatDoor
open Go.RowKit
section
variable {No : Nat → Prop} {w : World} {T S hb c : Nat} {K : Nat} {l : List V}
set_option maxRecDepth 20000 in
set_option maxHeartbeats 4000000 in
theorem insert_fuel (h : Tw No w T S hb c 1 K (rowf l)) (g : Gl l) (hc : c ≤ 400000) (hl : l.length < K) (hK : K ≤ 1000) (p : Nat) (hp : p ≤ l.length) (v : V) (_ : Gv v) (fuel : Int) (hf0 : 0 ≤ fuel) (hf : fuel < (l.length : Int) - p) :
    Calls Tryz.prog 14 #[tp T, .int .i64 ((p : Int) + 1), vv v, .int .i64 fuel] w fun e w' => e = .returned (.tuple #[.int .i64 fuel, .int .i64 11]) ∧ (∃ f, Tw No w' T S hb (c + 9000) 1 K f) ∧ Keep No w w' := by
  obtain ⟨No2, h0, n1, n2, _⟩ := h.box (vb v.1 v.2.1 v.2.2)
  have C := h0.len (by omega) (m := l.length) (by omega) fun x _ h1 => rowf_pres g x h1
  have HK : Hid (Keep No w (w.alloc (vb v.1 v.2.1 v.2.2)) ∧ (∀ g, No g → No2 g) ∧ No2 w.heap.size ∧ Bx (w.alloc (vb v.1 v.2.1 v.2.2)) w.heap.size v) := ⟨Keep.of (b1 _ _), n1, n2, Bx.made w v⟩
  have hne : ((l.length : Int) == 9223372036854775807) = false := by simp; omega
  have wl : IntKind.i64.wrap ((l.length : Int) + 1) = (l.length : Int) + 1 := by rw [IntKind.wrap_i64]; omega
  have f0 : ¬ fuel < 0 := by omega
  have p0 : ¬ (p : Int) + 1 < 1 := by omega
  have p1 : ¬ (l.length : Int) + 1 < (p : Int) + 1 := by omega
  have d1 : decide (l.length < p) = false := by simp; omega
  have d2 : decide ((p : Int) + 1 < 1) = false := by simp; omega
  have HNo : Hid (∀ g, No g → g < w.heap.size) := fun g q => h.nos q
  clear h g h0 n1 n2
  go_enter Tryz.func14, Tryz.ntmps14
  go_wp2_with fail
  refine C.mono ?_
  rintro e w1 ⟨rfl, t1, k1⟩
  have B1 : Hid (Bx w1 w.heap.size v ∧ Keep No w w1) := ⟨HK.out.2.2.2.kept k1 HK.out.2.2.1, HK.out.1.trans (k1.sub HK.out.2.1)⟩
  have hz1 : w.heap.size < w1.heap.size := B1.out.1.lt
  obtain ⟨No3, t2, m1, m2, _⟩ := t1.box (.cells #[.int .i64 fuel, .int .i64 0] 66)
  have k2 := b1 w1 (.cells #[.int .i64 fuel, .int .i64 0] 66)
  have HX : Hid ((∀ g, No g → No3 g ∧ g ≠ w1.heap.size) ∧ No3 w1.heap.size ∧ (No3 w.heap.size ∧ w.heap.size ≠ w1.heap.size)) := ⟨fun g q => ⟨m1 g (HK.out.2.1 g q), by have := HNo.out g q; omega⟩, m2, m1 _ HK.out.2.2.1, by omega⟩
  have HI : Hid (Tw No3 (w1.alloc (.cells #[.int .i64 fuel, .int .i64 0] 66)) T S hb (c + 130) 1 K (insF l (l.length : Int)) ∧ Sp (w1.alloc (.cells #[.int .i64 fuel, .int .i64 0] 66)) w1.heap.size fuel 0 ∧ Bx (w1.alloc (.cells #[.int .i64 fuel, .int .i64 0] 66)) w.heap.size v ∧ Keep No w (w1.alloc (.cells #[.int .i64 fuel, .int .i64 0] 66))) := ⟨by rw [insF_top]; exact t2, Sp.made w1 fuel 66, B1.out.1.below k2, B1.out.2.bel k2⟩
  clear C k1 t1 t2 m1 m2 k2 B1 HK
  go_wp2
  go_loopw [12] (fun iv wx => ∃ j : Nat, iv = .int .i64 (j : Nat) ∧ (l.length : Int) - fuel ≤ (j : Int) ∧ j ≤ l.length ∧ Hid (Tw No3 wx T S hb (c + 130 + 8 * (l.length - j)) 1 K (insF l (j : Int)) ∧ Sp wx w1.heap.size fuel ((l.length : Int) - j) ∧ Bx wx w.heap.size v ∧ Keep No w wx)) (fun iv _ => (intOf iv).toNat)
  case atStart => exact ⟨l.length, rfl, by omega, Nat.le_refl _, by rw [Nat.sub_self, Nat.mul_zero]; exact HI.out.1, by rw [Int.sub_self]; exact HI.out.2.1, HI.out.2.2⟩
  case round =>
    clear HI
    obtain ⟨j, rfl, hj1, hj2, HI⟩ := hrel
    have q1 : (p : Int) + 1 ≤ (j : Int) := by omega
    have wj : IntKind.i64.wrap ((j : Int) + 1) = (j : Int) + 1 := by rw [IntKind.wrap_i64]; omega
    have wj2 : IntKind.i64.wrap ((j : Int) - 1) = (j : Int) - 1 := by rw [IntKind.wrap_i64]; omega
    by_cases hlt : (l.length : Int) - fuel < (j : Int)
    · have C := carry_yes HI.out.1 HI.out.2.1 HX.out.2.1 (by omega) (by omega) (by omega) (by omega) (j : Int) ((j : Int) + 1) ⟨by omega, by omega⟩ ⟨by omega, by omega⟩ ⟨by omega, by omega⟩
      rw [insF_step l (by omega) (by omega)] at C
      go_wp2_with fail
      refine C.mono ?_
      rintro e w3 ⟨rfl, t3, s3, k3⟩
      have HN : Hid (Tw No3 w3 T S hb (c + 130 + 8 * (l.length - (j - 1))) 1 K (insF l ((j - 1 : Nat) : Int)) ∧ Sp w3 w1.heap.size fuel ((l.length : Int) - ((j - 1 : Nat) : Int)) ∧ Bx w3 w.heap.size v ∧ Keep No w w3) := ⟨by rw [show ((j - 1 : Nat) : Int) = (j : Int) - 1 by omega]; exact t3.more (by omega), by rw [show (l.length : Int) - ((j - 1 : Nat) : Int) = (l.length : Int) - j + 1 by omega]; exact s3, HI.out.2.2.1.kept k3 HX.out.2.2, HI.out.2.2.2.trans (k3.sub HX.out.1)⟩
      clear C t3 s3 k3 HI
      go_wp2
      go_roundw
      case rel => exact ⟨j - 1, by congr 1; omega, by omega, by omega, HN⟩
      case measure => simp [intOf]; omega
    · have e0 : (l.length : Int) - (j : Int) = fuel := by omega
      have S1 := HI.out.2.1
      rw [e0] at S1
      have C := carry_no (tp T) (tp T) (j : Int) ((j : Int) + 1) S1
      have c1 := S1.drew.c1
      have H4 : Hid ((∃ f, Tw No wr.drew T S hb (c + 9000) 1 K f) ∧ Keep No w wr.drew) := ⟨⟨_, (HI.out.1.drew.sub fun g q => (HX.out.1 g q).1).more (by omega)⟩, HI.out.2.2.2.drew⟩
      clear S1 HI e0
      go_wp2_with fail
      refine C.mono ?_
      rintro e w3 ⟨rfl, rfl⟩
      clear C
      go_wp2
      go_ret2
      exact ⟨rfl, H4.out⟩
end
end Go.Proofs.YtckgoedlgecokaaGreatDoor
