/- The walks of the laws WordsSums and WordsRing. -/
import Derived.Test.YtoecfpedpibfiabDoorMul
namespace Go.Proofs.YtoecfpedpibfiabDoor
open Go.RowKit

set_option maxHeartbeats 1000000 in
theorem sums_walk (a b : Int) (w : World) (ha0 : -9223372036854775808 ≤ a) (ha1 : a ≤ 9223372036854775807)
    (htab : Lib.TabIs Tryd.prog w "internal/strconv.uint64pow10" .u64 Lib.pow10Tab) : Calls Tryd.prog 3 #[.int .i64 a, .int .i64 b] w fun e w' => e = .returned (.bool true) ∧ Below w.heap.size w w' := by
  have H0 : Hid (-9223372036854775808 ≤ a) := ha0
  have H1 : Hid (a ≤ 9223372036854775807) := ha1
  clear ha0 ha1
  go_enter Tryd.func3, Tryd.ntmps3
  go_wp2_with (first
    | (go_at_call 8; refine (div_any _ _ _).mono ?_; rintro e w' ⟨rfl, rfl⟩)
    | (go_at_call 9; refine (rdiv_any _ _ _ H0.out H1.out).mono ?_; rintro e w' ⟨rfl, rfl⟩)
    | (go_at_call 16; refine (mod_any _ _ _).mono ?_; rintro e w' ⟨rfl, rfl⟩)
    | (go_at_call 17; refine (rmod_any _ _ _).mono ?_; rintro e w' ⟨rfl, rfl⟩)
    | (go_at_call 14; refine (rmul_any _ _ _).mono ?_; rintro e w' ⟨rfl, rfl⟩)
    | (go_at_call 10; refine (fixed_any _ htab).mono ?_; rintro e w' ⟨rfl, hb⟩)
    | go_in)
  go_ret
  exact ⟨rfl, by assumption⟩

theorem wm (x : Int) : wrap64 x % 18446744073709551616 = x % 18446744073709551616 := by unfold wrap64; omega
theorem wmul (x y : Int) : (wrap64 x * y) % 18446744073709551616 = (x * y) % 18446744073709551616 := by rw [Int.mul_emod, wm, ← Int.mul_emod]
theorem wmul' (x y : Int) : (x * wrap64 y) % 18446744073709551616 = (x * y) % 18446744073709551616 := by rw [Int.mul_emod, wm, ← Int.mul_emod]
theorem wadd (x y : Int) : (wrap64 x + y) % 18446744073709551616 = (x + y) % 18446744073709551616 := by unfold wrap64; omega
theorem wadd' (x y : Int) : (x + wrap64 y) % 18446744073709551616 = (x + y) % 18446744073709551616 := by unfold wrap64; omega

theorem ring1 (a b : Int) (h0 : -9223372036854775808 ≤ a) (h1 : a ≤ 9223372036854775807) : wrap64 (wrap64 (a + b) - b) = a := by unfold wrap64; omega
theorem ring2 (a : Int) : wrap64 (a + wrap64 (-a)) = 0 := by unfold wrap64; omega
theorem ring3 (a b c : Int) : wrap64 (a * wrap64 (b + c)) = wrap64 (wrap64 (a * b) + wrap64 (a * c)) := by
  apply wrap64_congr
  rw [wmul', wadd, wadd', Int.mul_add]
theorem ring4 (a b : Int) (hb : b ≠ 0) (h0 : -9223372036854775808 ≤ a) (h1 : a ≤ 9223372036854775807) : wrap64 (wrap64 (qd a b * b) + md a b) = a := by
  have hf := (tm_facts a b hb).1
  have hc : a.tdiv b * b = b * a.tdiv b := Int.mul_comm _ _
  have e : (wrap64 (qd a b * b) + md a b) % 18446744073709551616 = a % 18446744073709551616 := by
    rw [wadd]
    by_cases hp : apB (a.tmod b) b = true
    · have e1 : qd a b = wrap64 (wrap64 (a.tdiv b) - 1) := by simp [qd, hb, hp]
      have e2 : md a b = wrap64 (a.tmod b + b) := by simp [md, hb, hp]
      rw [e1, e2, wadd', Int.add_emod, wmul, Int.sub_mul, Int.sub_emod, wmul, ← Int.sub_emod, ← Int.add_emod]
      congr 1
      omega
    · have e1 : qd a b = wrap64 (a.tdiv b) := by simp [qd, hb, hp]
      have e2 : md a b = a.tmod b := by simp [md, hb, hp]
      rw [e1, e2, Int.add_emod, wmul, ← Int.add_emod]
      congr 1
      omega
  rw [wrap64_congr e, wrap64_id a h0 h1]
theorem md_sign (a b : Int) (hb : b ≠ 0) (h0 : -9223372036854775808 ≤ b) (h1 : b ≤ 9223372036854775807) : md a b = 0 ∨ (0 < b ∧ 0 < md a b ∧ md a b < b) ∨ (b < 0 ∧ md a b < 0 ∧ b < md a b) := by
  obtain ⟨_, hlt, _, _⟩ := tm_facts a b hb
  by_cases hp : apB (a.tmod b) b = true
  · have e2 : md a b = wrap64 (a.tmod b + b) := by simp [md, hb, hp]
    rw [e2]
    simp only [apB, ne_eq, Bool.and_eq_true, decide_eq_true_eq, bne_iff_ne] at hp
    generalize a.tmod b = r at *
    obtain ⟨hr, hs⟩ := hp
    by_cases hx : r < 0 <;> by_cases hy : b < 0 <;> simp [hx, hy] at hs
    · rw [wrap64_id _ (by omega) (by omega)]; omega
    · rw [wrap64_id _ (by omega) (by omega)]; omega
  · have e2 : md a b = a.tmod b := by simp [md, hb, hp]
    rw [e2]
    simp only [apB, ne_eq, Bool.and_eq_true, decide_eq_true_eq, bne_iff_ne] at hp
    generalize a.tmod b = r at *
    by_cases hr : r = 0
    · exact .inl hr
    · by_cases hx : r < 0 <;> by_cases hy : b < 0 <;> simp [hx, hy, hr] at hp <;> omega

set_option maxHeartbeats 1000000 in
theorem ring_walk (a b c : Int) (w : World) (ha0 : -9223372036854775808 ≤ a) (ha1 : a ≤ 9223372036854775807) (hb0 : -9223372036854775808 ≤ b) (hb1 : b ≤ 9223372036854775807)
    (htab : Lib.TabIs Tryd.prog w "internal/strconv.uint64pow10" .u64 Lib.pow10Tab) : Calls Tryd.prog 4 #[.int .i64 a, .int .i64 b, .int .i64 c] w fun e w' => e = .returned (.bool true) ∧ Below w.heap.size w w' := by
  have r1 := ring1 a b ha0 ha1
  have r2 := ring2 a
  have r3 := ring3 a b c
  by_cases hb : b = 0
  · subst hb
    have q0 : ez 0 = 7 := rfl
    have q1 : qd a 0 = 0 := rfl
    have q2 : md a 0 = 0 := rfl
    have r1' : wrap64 (wrap64 a) = a := by simpa using r1
    have r3' : wrap64 (a * wrap64 c) = wrap64 (wrap64 (a * c)) := wrap64_congr (by rw [wmul', wm])
    clear ha0 ha1 hb0 hb1 r1 r3
    go_enter Tryd.func4, Tryd.ntmps4
    go_wp2_with (first
      | (go_at_call 8; refine (div_any _ _ _).mono ?_; rintro e w' ⟨rfl, rfl⟩)
      | (go_at_call 16; refine (mod_any _ _ _).mono ?_; rintro e w' ⟨rfl, rfl⟩)
      | (go_at_call 10; refine (fixed_any _ htab).mono ?_; rintro e w' ⟨rfl, hb⟩)
      | go_in)
    go_ret
    exact ⟨rfl, by assumption⟩
  · have r4 := ring4 a b hb ha0 ha1
    have q0 : ez b = 0 := by simp [ez, hb]
    have hb' : (b == 0) = false := by simpa using hb
    rcases md_sign a b hb hb0 hb1 with hz | ⟨hz1, hz2, hz3⟩ | ⟨hz1, hz2, hz3⟩
    · rw [hz, Int.add_zero] at r4
      clear ha0 ha1 hb0 hb1
      go_enter Tryd.func4, Tryd.ntmps4
      go_wp2_with (first
        | (go_at_call 8; refine (div_any _ _ _).mono ?_; rintro e w' ⟨rfl, rfl⟩)
        | (go_at_call 16; refine (mod_any _ _ _).mono ?_; rintro e w' ⟨rfl, rfl⟩)
        | (go_at_call 10; refine (fixed_any _ htab).mono ?_; rintro e w' ⟨rfl, hb⟩)
        | go_in)
      go_ret
      exact ⟨rfl, by assumption⟩
    all_goals
      clear ha0 ha1 hb0 hb1
      go_enter Tryd.func4, Tryd.ntmps4
      go_wp2_with (first
        | (go_at_call 8; refine (div_any _ _ _).mono ?_; rintro e w' ⟨rfl, rfl⟩)
        | (go_at_call 16; refine (mod_any _ _ _).mono ?_; rintro e w' ⟨rfl, rfl⟩)
        | (go_at_call 10; refine (fixed_any _ htab).mono ?_; rintro e w' ⟨rfl, hb⟩)
        | go_in)
      go_ret
      exact ⟨rfl, by assumption⟩

#print axioms sums_walk
#print axioms ring_walk

end Go.Proofs.YtoecfpedpibfiabDoor
