/- The walks of isSize, Power and spread. -/
import Derived.Test.YtbkgbojfjijalaaChk
namespace Go.Proofs.Ytbkgbojfjijalaa
open Go.RowKit

theorem i64_and_nat (a b : Nat) (ha : a < 4294967296) (hb : b < 4294967296) : bits .and .i64 (a : Int) (b : Int) = ((a &&& b : Nat) : Int) := by
  have hx : a &&& b < 2 ^ 32 := Nat.and_lt_two_pow _ (by omega)
  show IntKind.i64.wrap ((BitVec.ofInt 64 (a : Int) &&& BitVec.ofInt 64 (b : Int)).toNat : Int) = _
  rw [BitVec.toNat_and, ofInt_u64 a (by omega), ofInt_u64 b (by omega), IntKind.wrap_i64]
  omega

/-- A power of two from 1 to 65536. -/
def pw (z : Int) : Bool := decide (1 ≤ z ∧ z ≤ 65536) && decide (z.toNat &&& (z.toNat - 1) = 0)
theorem pw_of (z : Int) (h : pw z = true) : ∃ i : Nat, i ≤ 16 ∧ z = ((2 ^ i : Nat) : Int) := by
  simp only [pw, Bool.and_eq_true, decide_eq_true_eq] at h
  obtain ⟨⟨h1, h2⟩, h3⟩ := h
  obtain ⟨n, rfl⟩ : ∃ n : Nat, z = n := ⟨z.toNat, by omega⟩
  simp only [Int.toNat_natCast] at h3
  have hn : n ≠ 0 := by omega
  have a1 : 2 ^ n.log2 ≤ n := Nat.log2_self_le hn
  have a2 : n < 2 ^ (n.log2 + 1) := Nat.lt_log2_self
  refine ⟨n.log2, ?_, ?_⟩
  · by_cases h : n.log2 ≤ 16
    · exact h
    · have := Nat.pow_le_pow_right (show 0 < 2 by omega) (show 17 ≤ n.log2 by omega)
      have : 2 ^ 17 = 131072 := by decide
      omega
  · by_cases he : n = 2 ^ n.log2
    · exact congrArg Nat.cast he
    · exfalso
      have t1 := Nat.testBit_of_two_pow_le_and_two_pow_add_one_gt (n := n) (i := n.log2) a1 (by omega)
      have t2 := Nat.testBit_of_two_pow_le_and_two_pow_add_one_gt (n := n - 1) (i := n.log2) (by omega) (by omega)
      have := congrArg (fun x => x.testBit n.log2) h3
      simp [Nat.testBit_and, t1, t2] at this
theorem pow_at : ∀ i : Nat, i < 17 → pw ((2 ^ i : Nat) : Int) = true ∧ 1 ≤ 2 ^ i ∧ 2 ^ i ≤ 65536 := by decide +kernel
theorem pw_bounds (z : Int) (h : pw z = true) : 1 ≤ z ∧ z ≤ 65536 := by
  simp only [pw, Bool.and_eq_true, decide_eq_true_eq] at h; exact h.1
theorem ret_bool {a b : Bool} (h : a = b) : Ending.returned (.bool a) = .returned (.bool b) := by rw [h]

set_option maxHeartbeats 1000000 in
theorem isSize_any (z : Int) (w : World) : Calls Try.prog 37 #[.int .i64 z] w fun e w' => e = .returned (.bool (pw z)) ∧ w' = w := by
  by_cases h : 1 ≤ z ∧ z ≤ 65536
  · have hb : Hid (bits .and .i64 z (z - 1) = ((z.toNat &&& (z.toNat - 1) : Nat) : Int)) := by
      have := i64_and_nat z.toNat (z.toNat - 1) (by omega) (by omega)
      rw [show ((z.toNat : Nat) : Int) = z by omega, show ((z.toNat - 1 : Nat) : Int) = z - 1 by omega] at this
      exact this
    obtain ⟨h0, h1⟩ := h
    go_enter Try.func37, Try.ntmps37
    go_wp2
    all_goals (go_ret; refine ⟨ret_bool ?_, rfl⟩)
    rw [hb.out, pw, decide_eq_true (show 1 ≤ z ∧ z ≤ 65536 from ⟨h0, h1⟩), Bool.true_and]
    rw [Bool.eq_iff_iff]; simp
  · have hp : pw z = false := by simp only [pw, decide_eq_false h, Bool.false_and]
    rw [hp]
    clear hp
    go_enter Try.func37, Try.ntmps37
    go_wp2
    all_goals (go_ret; first | exact ⟨rfl, rfl⟩ | (exfalso; omega))

set_option maxHeartbeats 1000000 in
theorem spread_any (n z : Int) (w : World) (h0 : 0 ≤ n) (h1 : n ≤ 18446744073709551615) (hz : 1 ≤ z) (hz' : z ≤ 65536) : Calls Try.prog 38 #[.int .u64 n, .int .i64 z] w fun e w' => e = .returned (.int .i64 (n % (if z = 1 then 1 else z - 1))) ∧ w' = w := by
  by_cases h : z = 1
  · subst h
    go_enter Try.func38, Try.ntmps38
    go_wp2
    go_ret; exact ⟨rfl, rfl⟩
  · go_enter Try.func38, Try.ntmps38
    go_wp2
    go_ret; refine ⟨ret1 ?_, rfl⟩
    have := Int.emod_nonneg n (show z - 1 ≠ 0 by omega)
    have := Int.emod_lt_of_pos n (show 0 < z - 1 by omega)
    unfold wrap64; omega

set_option maxHeartbeats 1000000 in
theorem power_any (z : Int) (w : World) : Calls Try.prog 30 #[.int .i64 z] w fun e w' => e = .returned (.bool (pw z)) ∧ w' = w := by
  go_enter Try.func30, Try.ntmps30
  go_wp2
  go_loop [3] (fun p => ∃ j : Nat, j ≤ 17 ∧ ∃ m : Nat, p = .int .i64 (m : Nat) ∧ Hid (m = 2 ^ j) ∧ Hid (∀ i, i < j → z ≠ ((2 ^ i : Nat) : Int))) (fun p => 200000 - (intOf p).toNat)
  case atStart => exact ⟨0, by omega, 1, rfl, rfl, fun i hi => by omega⟩
  case round =>
    obtain ⟨j, hj, m, rfl, HM, HZ⟩ := hrel
    by_cases hj2 : j = 17
    · have hm : m = 131072 := by rw [HM.out, hj2]
      have HP : Hid (pw z = false) := by
        cases hp : pw z
        · rfl
        · obtain ⟨i, hi, he⟩ := pw_of z hp
          exact absurd he (HZ.out i (by omega))
      clear HM HZ
      subst hm
      go_wp2
      go_ret
      exact ⟨ret_bool HP.out.symm, rfl⟩
    · obtain ⟨q1, q2, q3⟩ := pow_at j (by omega)
      rw [← HM.out] at q1 q2 q3
      have Q1 : Hid _ := q1
      have q4 : (m : Int) ≤ 65536 := by omega
      clear q1
      by_cases he : (m : Int) = z
      · subst he
        go_wp2
        go_ret
        exact ⟨ret_bool Q1.out.symm, rfl⟩
      · have he' : ((m : Int) == z) = false := by simpa using he
        go_wp2
        go_round
        case rel =>
          refine ⟨j + 1, by omega, m * 2, by simp, by (show _ = _; rw [HM.out, Nat.pow_succ]), fun i hi => ?_⟩
          by_cases hi2 : i = j
          · subst hi2; rw [← HM.out]; exact fun h => he h.symm
          · exact HZ.out i (by omega)
        case measure => simp [intOf]; omega

end Go.Proofs.Ytbkgbojfjijalaa
