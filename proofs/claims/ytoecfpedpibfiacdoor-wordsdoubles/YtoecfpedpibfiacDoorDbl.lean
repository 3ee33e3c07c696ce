/- The walk of the law WordsDoubles. -/
import Derived.Test.YtoecfpedpibfiacDoorPowers
namespace Go.Proofs.YtoecfpedpibfiacDoor
open Go.RowKit

theorem lgN_double (n : Int) (h0 : 1 ≤ n) (h1 : n ≤ 536870912) : lgN (2 * n) = lgN n + 1 := by
  obtain ⟨a, b, c⟩ := lgN_spec n h0 (by omega)
  refine (lgN_unique (2 * n) (lgN n + 1) (by omega) (by omega) ?_ (.inr ?_)).symm
  · rw [Nat.pow_succ]
    generalize 2 ^ lgN n = P at a
    omega
  · rw [Nat.add_sub_cancel]
    rcases b with b | b
    · rw [b]; simp; omega
    · by_cases hz : lgN n = 0
      · rw [hz]; simp; omega
      · have h5 : 2 ^ lgN n = 2 * 2 ^ (lgN n - 1) := by
          rw [← Nat.pow_succ']
          congr 1
          omega
        rw [h5]
        generalize 2 ^ (lgN n - 1) = Q at b
        omega
theorem cl_double (n : Int) (h0 : 1 ≤ n) (h1 : n ≤ 536870912) : cl (2 * n) = 2 * cl n := by
  unfold cl; rw [lgN_double n h0 h1, Int.pow_succ, Int.mul_comm]
theorem lgN_cl (n : Int) (h0 : 1 ≤ n) (h1 : n ≤ 536870912) : lgN (cl n) = lgN n := by
  obtain ⟨_, _, _, h3, h4, h30⟩ := cl_facts n h0 (by omega)
  have e : (cl n).toNat = 2 ^ lgN n := by
    unfold cl; rw [← pow_int]; exact Int.toNat_natCast _
  refine (lgN_unique (cl n) (lgN n) h3 (by omega) (by rw [e]; exact Nat.le_refl _) ?_).symm
  by_cases hz : lgN n = 0
  · exact .inl hz
  · right
    rw [e]
    exact Nat.pow_lt_pow_right (by omega) (by omega)
theorem cl_cl (n : Int) (h0 : 1 ≤ n) (h1 : n ≤ 536870912) : cl (cl n) = cl n := by
  show (2 : Int) ^ lgN (cl n) = 2 ^ lgN n
  rw [lgN_cl n h0 h1]

set_option maxHeartbeats 1000000 in
theorem doubles_walk (n : Int) (w : World) (htab : Lib.TabIs Tryd.prog w "internal/strconv.uint64pow10" .u64 Lib.pow10Tab) :
    Calls Tryd.prog 4 #[.int .i64 n] w fun e w' => e = .returned (.bool true) ∧ Below w.heap.size w w' := by
  obtain ⟨m, hm, hm0, hm1⟩ : ∃ m, wrap64 (1 + wrap64 ((IntKind.u64.wrap n).tmod 536870912)) = m ∧ 1 ≤ m ∧ m ≤ 536870912 := by
    refine ⟨_, rfl, ?_⟩
    have h1 : 0 ≤ IntKind.u64.wrap n := by rw [IntKind.wrap_u64]; omega
    have h2 : (IntKind.u64.wrap n).tmod 536870912 = IntKind.u64.wrap n % 536870912 := Int.tmod_eq_emod_of_nonneg h1
    rw [h2]
    unfold wrap64
    omega
  obtain ⟨hc, _, _, hc3, hc4, h30⟩ := cl_facts m hm0 (by omega)
  have d1 := cl_double m hm0 hm1
  have d2 := cl_cl m hm0 hm1
  have d3 := lgN_double m hm0 hm1
  have d4 := lgN_cl m hm0 hm1
  clear hc
  go_enter Tryd.func4, Tryd.ntmps4
  go_wp2_with (first
    | (go_at_call 5; refine (fixed_any _ htab).mono ?_; rintro e w' ⟨rfl, hb⟩)
    | (go_at_call 11; refine (ceil_pos _ _ (by omega) (by omega)).mono ?_; rintro e w' ⟨rfl, rfl⟩)
    | (go_at_call 12; refine (log2_pos _ _ (by omega) (by omega)).mono ?_; rintro e w' ⟨rfl, rfl⟩))
  go_ret
  exact ⟨rfl, by assumption⟩

#print axioms doubles_walk

end Go.Proofs.YtoecfpedpibfiacDoor
