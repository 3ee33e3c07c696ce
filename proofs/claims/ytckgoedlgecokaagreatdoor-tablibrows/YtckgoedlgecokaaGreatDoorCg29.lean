/- The walk of Move: within one table; from one table to another. -/
import Derived.Test.YtckgoedlgecokaaGreatDoorCg28
import Derived.LaidEql
namespace Go.Proofs.YtckgoedlgecokaaGreatDoor
open Go.RowKit
section
variable {No : Nat → Prop} {w : World} {T S hb c : Nat} {K : Nat} {g : Int → V} {a : Int}
theorem under26 : Tryz.prog.underlying 26 = some (.pointer 88) := by kernel_rfl
theorem info88 : ∃ i, Tryz.prog.info? 88 = some i ∧ i.size = 7 := by
  have h : (Tryz.prog.info? 88).map (fun i => i.size) = some 7 := by kernel_rfl
  obtain ⟨i, h1, h2⟩ := Option.map_eq_some_iff.1 h
  exact ⟨i, h1, h2⟩
set_option maxRecDepth 20000 in
theorem eqT (T : Nat) (W : World) : (binOp .eql 26 (tp T) (tp T)).run Tryz.prog W = .ok (.bool true) W := by
  obtain ⟨i, hi, _⟩ := info88
  have h : ∀ d, (Op.equalIn (d + 1) 26 (tp T) (tp T)).run Tryz.prog W = .ok true W := fun d => by
    simp [Op.equalIn, run_underlying under26, sizeOf, typeInfo, hi, run_sameAddr_same]
  simp only [binOp]
  simp [Op.equal, Op.maxDepth, h 9999]
theorem cells_block {w : World} {T : Nat} {v : Value} (h : w.cell? ⟨T, 0, none⟩ = some v) : ∃ ca ta fr, w.heap[T]? = some (.cells ca ta fr) := by
  unfold World.cell? at h
  split at h
  · rename_i q; exact ⟨_, _, _, q⟩
  all_goals (first | (simp at h; done) | (rename_i q; exact ⟨_, _, _, q⟩))
set_option maxRecDepth 20000 in
theorem neT {T T' : Nat} (h : T ≠ T') {W : World} {u v : Value} (h1 : W.cell? ⟨T, 0, none⟩ = some u) (h2 : W.cell? ⟨T', 0, none⟩ = some v) (f1 : ∀ j, W.frozen? ⟨T, j, none⟩ = false) (f2 : ∀ j, W.frozen? ⟨T', j, none⟩ = false) : (binOp .eql 26 (tp T) (tp T')).run Tryz.prog W = .ok (.bool false) W := by
  obtain ⟨i, hi, hs⟩ := info88
  obtain ⟨ca, ta, fa, e1⟩ := cells_block h1
  obtain ⟨cb, tb, fb, e2⟩ := cells_block h2
  have hA : (sameAddr ⟨T, 0, none⟩ ⟨T', 0, none⟩).run Tryz.prog W = .ok false W := by
    simp [sameAddr, h, f1, f2, noView, viewAt, World.shape?, e1, e2, mayBeOne, stringish]
  have h : ∀ d, (Op.equalIn (d + 1) 26 (tp T) (tp T')).run Tryz.prog W = .ok false W := fun d => by
    simp [Op.equalIn, run_underlying under26, sizeOf, typeInfo, hi, hs, hA]
  simp only [binOp]
  simp [Op.equal, Op.maxDepth, h 9999]
set_option maxRecDepth 20000 in
set_option maxHeartbeats 2000000 in
theorem move_none (x y : Nat) (f e p fuel : Int) (he : e < f) (hf : 0 ≤ fuel) (w : World) : Calls Tryz.prog 19 #[tp x, tp y, .int .i64 f, .int .i64 e, .int .i64 p, .int .i64 fuel] w fun r w' => r = .returned (.tuple #[.int .i64 0, .int .i64 0]) ∧ w' = w := by
  have f0 : ¬ fuel < 0 := by omega
  go_enter Tryz.func19, Tryz.ntmps19
  go_wp2
  go_ret2
  exact ⟨rfl, rfl⟩
/-- What Move's loop keeps, within one table. -/
structure MI (No : Nat → Prop) (w : World) (T S hb c X : Nat) (a : Int) (K : Nat) (f : Int → V) (fuel made : Int) (wx : World) : Prop where
  tw : ∃ No' : Nat → Prop, Tw No' wx T S hb c a K f ∧ (∀ g, No g → No' g ∧ g ≠ X) ∧ No' X
  sp : Sp wx X fuel made
  kp : Keep No w wx
theorem MI.carry {X : Nat} {f : Int → V} {fuel made : Int} {wx : World} (h : MI No w T S hb c X a K f fuel made wx) (hn : made ≠ fuel) (h0 : 0 ≤ made) (h1 : made ≤ 1000000) (hc : c ≤ 600000) (i j : Int) (hi : I64 i) (hj : I64 j) (hw : a ≤ j ∧ j < a + K) :
    Calls Tryz.prog 28 #[.pointer (some ⟨X, 0, none⟩), tp T, .int .i64 i, tp T, .int .i64 j] wx fun e w' => e = .returned (.int .i64 0) ∧ MI No w T S hb (c + 8) X a K (fupd f j (f i)) fuel (made + 1) w' := by
  obtain ⟨N, t1, t2, t3⟩ := h.tw
  exact (carry_yes t1 h.sp t3 hn h0 h1 hc i j hi hj hw).mono fun e w' ⟨he, ht, hs, hk⟩ => ⟨he, ⟨⟨N, ht, t2, t3⟩, hs, h.kp.trans (hk.sub t2)⟩⟩
/-- The numbers that Move reckons with. -/
structure MN (f e p m : Int) : Prop where
  f1 : -100000 ≤ f ∧ f ≤ 100000
  m1 : 0 ≤ m ∧ m ≤ 1000
  e1 : e = f + m
  p1 : -100000 ≤ p ∧ p ≤ 100000
set_option maxRecDepth 20000 in
set_option maxHeartbeats 4000000 in
theorem move_up (h : Tw No w T S hb c a K g) (hc : c ≤ 400000) (f e p : Int) (m : Nat) (hM : MN f e p m) (hu : p ≤ f ∨ e < p) (hw : a ≤ p ∧ p + m < a + K) (fuel : Int) (hf : (m : Int) + 1 ≤ fuel) (hf1 : fuel ≤ 1000000) :
    Calls Tryz.prog 19 #[tp T, tp T, .int .i64 f, .int .i64 e, .int .i64 p, .int .i64 fuel] w fun r w' => r = .returned (.tuple #[.int .i64 ((m : Int) + 1), .int .i64 0]) ∧ Tw No w' T S hb (c + 9000) a K (mvF g g f p ((m : Int) + 1)) ∧ Keep No w w' := by
  obtain ⟨⟨a1, a2⟩, ⟨a3, a4⟩, rfl, ⟨a5, a6⟩⟩ := hM
  have CG := gap_any f (f + m) (by omega) ⟨by omega, by omega⟩ ⟨by omega, by omega⟩ w
  have f0 : ¬ fuel < 0 := by omega
  have g0 : ¬ f + (m : Int) < f := by omega
  have g1 : ¬ (4611686018427387904 : Int) < f + (m : Int) - f := by omega
  have w1 : IntKind.i64.wrap (f + (m : Int) - f) = (m : Int) := by rw [IntKind.wrap_i64]; omega
  have w2 : IntKind.i64.wrap (9223372036854775807 - (m : Int)) = 9223372036854775807 - (m : Int) := by rw [IntKind.wrap_i64]; omega
  have g2 : ¬ 9223372036854775807 - (m : Int) < p := by omega
  have w3 : IntKind.i64.wrap ((m : Int) + 1) = (m : Int) + 1 := by rw [IntKind.wrap_i64]; omega
  have eT := eqT T
  obtain ⟨No2, h0, n1, n2, n3⟩ := h.box (.cells #[.int .i64 fuel, .int .i64 0] 66)
  have HI : Hid (MI No w T S hb c w.heap.size a K (mvF g g f p 0) fuel 0 (w.alloc (.cells #[.int .i64 fuel, .int .i64 0] 66))) := ⟨⟨No2, by rw [mvF_beg]; exact h0, fun q hq => ⟨n1 q hq, fun e => n3 (e ▸ hq)⟩, n2⟩, Sp.made w fuel 66, Keep.of (b1 _ _)⟩
  clear h h0 n1 n2 n3
  by_cases hfp : f < p
  · have q1 : ¬ p ≤ f + (m : Int) := by omega
    go_enter Tryz.func19, Tryz.ntmps19
    go_wp2_with (go_at_call 30; refine CG.mono ?_; rintro e wq ⟨rfl, hwq⟩; obtain rfl : w = wq := hwq.symm)
    go_loopw [65] (fun iv wx => ∃ n : Nat, iv = .int .i64 (n : Nat) ∧ n ≤ m + 1 ∧ Hid (MI No w T S hb (c + 8 * n) w.heap.size a K (mvF g g f p (n : Nat)) fuel (n : Nat) wx)) (fun iv _ => m + 1 - (intOf iv).toNat)
    case atStart => exact ⟨0, rfl, by omega, HI⟩
    case round =>
      clear HI CG
      obtain ⟨n, rfl, hn, HI⟩ := hrel
      by_cases hlt : n < m + 1
      · have h1 : (n : Int) < (m : Int) + 1 := by omega
        have wn : IntKind.i64.wrap ((n : Int) + 1) = (n : Int) + 1 := by rw [IntKind.wrap_i64]; omega
        have wd : IntKind.i64.wrap ((m : Int) - (n : Int)) = (m : Int) - (n : Int) := by rw [IntKind.wrap_i64]; omega
        have wf : IntKind.i64.wrap (f + (n : Int)) = f + (n : Int) := by rw [IntKind.wrap_i64]; omega
        have wp : IntKind.i64.wrap (p + (n : Int)) = p + (n : Int) := by rw [IntKind.wrap_i64]; omega
        have hms : m + 1 - (n + 1) < m + 1 - n := by omega
        have C := HI.out.carry (by omega) (by omega) (by omega) (by omega) (f + (n : Int)) (p + (n : Int)) ⟨by omega, by omega⟩ ⟨by omega, by omega⟩ ⟨by omega, by omega⟩
        rw [mvF_read g (f := f) (p := p) (n := (n : Int)) (e := f + (m : Int)) (.inr (by omega)) (by omega) (by omega), mvF_step g g f p (n := (n : Int)) (by omega)] at C
        go_wp2_with fail
        refine C.mono ?_
        rintro e w3 ⟨rfl, h3⟩
        have HN : Hid (MI No w T S hb (c + 8 * (n + 1)) w.heap.size a K (mvF g g f p ((n + 1 : Nat) : Int)) fuel ((n + 1 : Nat) : Int) w3) := by
          rw [show ((n + 1 : Nat) : Int) = (n : Int) + 1 by omega, show c + 8 * (n + 1) = c + 8 * n + 8 by omega]; exact h3
        clear C h3 HI wf wp wd
        go_wp2
        go_roundw
        case rel => exact ⟨n + 1, by go_num, by omega, HN⟩
        case measure => first | omega | (simp only [intOf]; omega) | (simp; omega)
      · have h1 : ¬ (n : Int) < (m : Int) + 1 := by omega
        have e0 : n = m + 1 := by omega
        subst e0
        have c1 := HI.out.sp.c1
        have HE : Hid (Tw No wr T S hb (c + 9000) a K (mvF g g f p ((m : Int) + 1)) ∧ Keep No w wr) := by
          obtain ⟨N, t1, t2, t3⟩ := HI.out.tw
          rw [show ((m + 1 : Nat) : Int) = (m : Int) + 1 by omega] at t1
          exact ⟨(t1.sub fun q hq => (t2 q hq).1).more (by omega), HI.out.kp⟩
        clear HI
        go_wp2
        go_ret2
        exact ⟨rfl, HE.out⟩
  · have q1 : ¬ f < p := hfp
    go_enter Tryz.func19, Tryz.ntmps19
    go_wp2_with (go_at_call 30; refine CG.mono ?_; rintro e wq ⟨rfl, hwq⟩; obtain rfl : w = wq := hwq.symm)
    go_loopw [65] (fun iv wx => ∃ n : Nat, iv = .int .i64 (n : Nat) ∧ n ≤ m + 1 ∧ Hid (MI No w T S hb (c + 8 * n) w.heap.size a K (mvF g g f p (n : Nat)) fuel (n : Nat) wx)) (fun iv _ => m + 1 - (intOf iv).toNat)
    case atStart => exact ⟨0, rfl, by omega, HI⟩
    case round =>
      clear HI CG
      obtain ⟨n, rfl, hn, HI⟩ := hrel
      by_cases hlt : n < m + 1
      · have h1 : (n : Int) < (m : Int) + 1 := by omega
        have wn : IntKind.i64.wrap ((n : Int) + 1) = (n : Int) + 1 := by rw [IntKind.wrap_i64]; omega
        have wd : IntKind.i64.wrap ((m : Int) - (n : Int)) = (m : Int) - (n : Int) := by rw [IntKind.wrap_i64]; omega
        have wf : IntKind.i64.wrap (f + (n : Int)) = f + (n : Int) := by rw [IntKind.wrap_i64]; omega
        have wp : IntKind.i64.wrap (p + (n : Int)) = p + (n : Int) := by rw [IntKind.wrap_i64]; omega
        have hms : m + 1 - (n + 1) < m + 1 - n := by omega
        have C := HI.out.carry (by omega) (by omega) (by omega) (by omega) (f + (n : Int)) (p + (n : Int)) ⟨by omega, by omega⟩ ⟨by omega, by omega⟩ ⟨by omega, by omega⟩
        rw [mvF_read g (f := f) (p := p) (n := (n : Int)) (e := f + (m : Int)) (.inl (by omega)) (by omega) (by omega), mvF_step g g f p (n := (n : Int)) (by omega)] at C
        go_wp2_with fail
        refine C.mono ?_
        rintro e w3 ⟨rfl, h3⟩
        have HN : Hid (MI No w T S hb (c + 8 * (n + 1)) w.heap.size a K (mvF g g f p ((n + 1 : Nat) : Int)) fuel ((n + 1 : Nat) : Int) w3) := by
          rw [show ((n + 1 : Nat) : Int) = (n : Int) + 1 by omega, show c + 8 * (n + 1) = c + 8 * n + 8 by omega]; exact h3
        clear C h3 HI wf wp wd
        go_wp2
        go_roundw
        case rel => exact ⟨n + 1, by go_num, by omega, HN⟩
        case measure => first | omega | (simp only [intOf]; omega) | (simp; omega)
      · have h1 : ¬ (n : Int) < (m : Int) + 1 := by omega
        have e0 : n = m + 1 := by omega
        subst e0
        have c1 := HI.out.sp.c1
        have HE : Hid (Tw No wr T S hb (c + 9000) a K (mvF g g f p ((m : Int) + 1)) ∧ Keep No w wr) := by
          obtain ⟨N, t1, t2, t3⟩ := HI.out.tw
          rw [show ((m + 1 : Nat) : Int) = (m : Int) + 1 by omega] at t1
          exact ⟨(t1.sub fun q hq => (t2 q hq).1).more (by omega), HI.out.kp⟩
        clear HI
        go_wp2
        go_ret2
        exact ⟨rfl, HE.out⟩
set_option maxRecDepth 20000 in
set_option maxHeartbeats 4000000 in
theorem move_down (h : Tw No w T S hb c a K g) (hc : c ≤ 400000) (f e p : Int) (m : Nat) (hM : MN f e p m) (hu : f < p ∧ p ≤ e) (hw : a ≤ p ∧ p + m < a + K) (fuel : Int) (hf : (m : Int) + 1 ≤ fuel) (hf1 : fuel ≤ 1000000) :
    Calls Tryz.prog 19 #[tp T, tp T, .int .i64 f, .int .i64 e, .int .i64 p, .int .i64 fuel] w fun r w' => r = .returned (.tuple #[.int .i64 ((m : Int) + 1), .int .i64 0]) ∧ Tw No w' T S hb (c + 9000) a K (mvF g g f p ((m : Int) + 1)) ∧ Keep No w w' := by
  obtain ⟨⟨a1, a2⟩, ⟨a3, a4⟩, rfl, ⟨a5, a6⟩⟩ := hM
  have CG := gap_any f (f + m) (by omega) ⟨by omega, by omega⟩ ⟨by omega, by omega⟩ w
  have f0 : ¬ fuel < 0 := by omega
  have g0 : ¬ f + (m : Int) < f := by omega
  have g1 : ¬ (4611686018427387904 : Int) < f + (m : Int) - f := by omega
  have w1 : IntKind.i64.wrap (f + (m : Int) - f) = (m : Int) := by rw [IntKind.wrap_i64]; omega
  have w2 : IntKind.i64.wrap (9223372036854775807 - (m : Int)) = 9223372036854775807 - (m : Int) := by rw [IntKind.wrap_i64]; omega
  have g2 : ¬ 9223372036854775807 - (m : Int) < p := by omega
  have w3 : IntKind.i64.wrap ((m : Int) + 1) = (m : Int) + 1 := by rw [IntKind.wrap_i64]; omega
  have eT := eqT T
  obtain ⟨No2, h0, n1, n2, n3⟩ := h.box (.cells #[.int .i64 fuel, .int .i64 0] 66)
  have HI : Hid (MI No w T S hb c w.heap.size a K (mvD g f p m 0) fuel 0 (w.alloc (.cells #[.int .i64 fuel, .int .i64 0] 66))) := ⟨⟨No2, by rw [mvD_beg]; exact h0, fun q hq => ⟨n1 q hq, fun e => n3 (e ▸ hq)⟩, n2⟩, Sp.made w fuel 66, Keep.of (b1 _ _)⟩
  clear h h0 n1 n2 n3
  obtain ⟨u1, u2⟩ := hu
  go_enter Tryz.func19, Tryz.ntmps19
  go_wp2_with (go_at_call 30; refine CG.mono ?_; rintro e wq ⟨rfl, hwq⟩; obtain rfl : w = wq := hwq.symm)
  go_loopw [65] (fun iv wx => ∃ n : Nat, iv = .int .i64 (n : Nat) ∧ n ≤ m + 1 ∧ Hid (MI No w T S hb (c + 8 * n) w.heap.size a K (mvD g f p (m : Int) (n : Nat)) fuel (n : Nat) wx)) (fun iv _ => m + 1 - (intOf iv).toNat)
  case atStart => exact ⟨0, rfl, by omega, HI⟩
  case round =>
    clear HI CG
    obtain ⟨n, rfl, hn, HI⟩ := hrel
    by_cases hlt : n < m + 1
    · have h1 : (n : Int) < (m : Int) + 1 := by omega
      have wn : IntKind.i64.wrap ((n : Int) + 1) = (n : Int) + 1 := by rw [IntKind.wrap_i64]; omega
      have wd : IntKind.i64.wrap ((m : Int) - (n : Int)) = (m : Int) - (n : Int) := by rw [IntKind.wrap_i64]; omega
      have wf : IntKind.i64.wrap (f + ((m : Int) - (n : Int))) = f + ((m : Int) - (n : Int)) := by rw [IntKind.wrap_i64]; omega
      have wp : IntKind.i64.wrap (p + ((m : Int) - (n : Int))) = p + ((m : Int) - (n : Int)) := by rw [IntKind.wrap_i64]; omega
      have hms : m + 1 - (n + 1) < m + 1 - n := by omega
      have C := HI.out.carry (by omega) (by omega) (by omega) (by omega) (f + ((m : Int) - (n : Int))) (p + ((m : Int) - (n : Int))) ⟨by omega, by omega⟩ ⟨by omega, by omega⟩ ⟨by omega, by omega⟩
      rw [mvD_read g (f := f) (p := p) (m := (m : Int)) (n := (n : Int)) u1 (by omega), mvD_step g f p (m : Int) (n := (n : Int)) (by omega)] at C
      go_wp2_with fail
      refine C.mono ?_
      rintro e w3 ⟨rfl, h3⟩
      have HN : Hid (MI No w T S hb (c + 8 * (n + 1)) w.heap.size a K (mvD g f p (m : Int) ((n + 1 : Nat) : Int)) fuel ((n + 1 : Nat) : Int) w3) := by
        rw [show ((n + 1 : Nat) : Int) = (n : Int) + 1 by omega, show c + 8 * (n + 1) = c + 8 * n + 8 by omega]; exact h3
      clear C h3 HI wf wp wd
      go_wp2
      go_roundw
      case rel => exact ⟨n + 1, by go_num, by omega, HN⟩
      case measure => first | omega | (simp only [intOf]; omega) | (simp; omega)
    · have h1 : ¬ (n : Int) < (m : Int) + 1 := by omega
      have e0 : n = m + 1 := by omega
      subst e0
      have c1 := HI.out.sp.c1
      have HE : Hid (Tw No wr T S hb (c + 9000) a K (mvF g g f p ((m : Int) + 1)) ∧ Keep No w wr) := by
        obtain ⟨N, t1, t2, t3⟩ := HI.out.tw
        rw [show ((m + 1 : Nat) : Int) = (m : Int) + 1 by omega] at t1
        exact ⟨by rw [← mvD_end]; exact (t1.sub fun q hq => (t2 q hq).1).more (by omega), HI.out.kp⟩
      clear HI
      go_wp2
      go_ret2
      exact ⟨rfl, HE.out⟩
end
end Go.Proofs.YtckgoedlgecokaaGreatDoor
