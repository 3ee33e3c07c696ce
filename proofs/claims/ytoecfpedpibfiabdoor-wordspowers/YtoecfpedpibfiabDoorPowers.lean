/- The walks of Log2 and Ceil2, the reference's by doubling, and of the law WordsPowers. -/
import Derived.Test.YtoecfpedpibfiabDoorMul
import Derived.Lib.ItoaNum
import Derived.Lib.BitFns
namespace Go.Proofs.YtoecfpedpibfiabDoor
open Go.RowKit

/-- The least k with n at most 2^k, of a number from 1 on; that power. -/
def lgN (n : Int) : Nat := Lib.bitLen (n.toNat - 1)
def cl (n : Int) : Int := 2 ^ lgN n

theorem lgN_spec (n : Int) (h0 : 1 ≤ n) (h1 : n ≤ 9223372036854775807) : n.toNat ≤ 2 ^ lgN n ∧ (lgN n = 0 ∨ 2 ^ (lgN n - 1) < n.toNat) ∧ lgN n ≤ 63 := by
  unfold lgN Lib.bitLen
  have hle := Lib.bitLen_le (n.toNat - 1) 63 (by omega) (by omega)
  unfold Lib.bitLen at hle
  by_cases hz : n.toNat - 1 = 0
  · rw [hz, Lib.bitLenAux_zero]
    exact ⟨by omega, .inl rfl, by omega⟩
  · obtain ⟨a, b, c⟩ := Lib.bitLenAux_bounds 64 (n.toNat - 1) (by omega) hz
    exact ⟨by omega, .inr (by omega), hle⟩

theorem lgN_unique (n : Int) (k : Nat) (h0 : 1 ≤ n) (h1 : n ≤ 9223372036854775807) (ha : n.toNat ≤ 2 ^ k) (hb : k = 0 ∨ 2 ^ (k - 1) < n.toNat) : k = lgN n := by
  obtain ⟨sa, sb, _⟩ := lgN_spec n h0 h1
  rcases Nat.lt_trichotomy k (lgN n) with h | h | h
  · rcases sb with sb | sb
    · omega
    · have := Nat.pow_le_pow_right (n := 2) (by omega) (show k ≤ lgN n - 1 by omega)
      omega
  · exact h
  · rcases hb with hb | hb
    · omega
    · have := Nat.pow_le_pow_right (n := 2) (by omega) (show lgN n ≤ k - 1 by omega)
      omega

theorem pow_int (k : Nat) : ((2 ^ k : Nat) : Int) = (2 : Int) ^ k := by simp
theorem pow_fit (k : Nat) (h : k ≤ 62) : wrap64 (2 ^ k) = 2 ^ k := by
  have h1 := Nat.pow_le_pow_right (n := 2) (by omega) h
  have h2 := pow_int k
  rw [← h2]
  generalize 2 ^ k = P at h1
  exact wrap64_id _ (by omega) (by omega)

theorem lg_pos (n : Int) (h : 1 ≤ n) : lg n = (lgN n : Int) := by
  unfold lg lgN
  rw [if_neg (by omega)]

theorem log2_pos (n : Int) (w : World) (h0 : 1 ≤ n) (h1 : n ≤ 9223372036854775807) : Calls Tryd.prog 26 #[.int .i64 n] w fun e w' => e = .returned (.int .i64 (lgN n)) ∧ w' = w := by
  rw [← lg_pos n h0]
  exact log2_any n w h1

theorem ret1 {a b : Int} (h : a = b) : Ending.returned (.int .i64 a) = .returned (.int .i64 b) := by rw [h]

set_option maxHeartbeats 400000 in
theorem rlog_neg (n : Int) (w : World) (h0 : n < 1) : Calls Tryd.prog 27 #[.int .i64 n] w fun e w' => e = .returned (.int .i64 (-1)) ∧ w' = w := by
  go_enter Tryd.func27, Tryd.ntmps27
  go_wp2
  go_ret
  exact ⟨rfl, rfl⟩

set_option maxHeartbeats 400000 in
theorem rlog_pos (n : Int) (w : World) (h0 : 1 ≤ n) (h1 : n ≤ 9223372036854775807) : Calls Tryd.prog 27 #[.int .i64 n] w fun e w' => e = .returned (.int .i64 (lgN n)) ∧ w' = w := by
  have H1 : Hid (n ≤ 9223372036854775807) := h1
  clear h1
  go_enter Tryd.func27, Tryd.ntmps27
  go_wp2
  go_loop [3] (fun v => ∃ k : Nat, k ≤ 62 ∧ Hid (k = 0 ∨ 2 ^ (k - 1) < n.toNat) ∧ v = .int .i64 k) (fun v => 62 - (intOf v).toNat)
  case atStart => exact ⟨0, by omega, .inl rfl, rfl⟩
  case round =>
    obtain ⟨k, hk, HK, rfl⟩ := hrel
    have hp := pow_fit k hk
    have HP : Hid (((2 ^ k : Nat) : Int) = (2 : Int) ^ k) := pow_int k
    go_wp2
    · go_round
      case rel => exact ⟨k + 1, by omega, .inr (by have := HP.out; show 2 ^ k < _; omega), by go_num⟩
      case measure => simp [intOf]; omega
    · go_ret
      exact ⟨ret1 (by rw [← lgN_unique n k h0 H1.out (by have := HP.out; omega) HK.out]), rfl⟩
    · go_ret
      obtain rfl : k = 62 := by omega
      have h63 : n.toNat ≤ 2 ^ 63 := by have := H1.out; omega
      exact ⟨ret1 (by rw [← lgN_unique n 63 h0 H1.out h63 (.inr (by have := HP.out; show 2 ^ 62 < _; omega))]; rfl), rfl⟩
    · go_ret
      exact ⟨ret1 (by rw [← lgN_unique n k h0 H1.out (by have := HP.out; omega) HK.out]), rfl⟩

/-! ### Ceil2 -/
theorem cl_facts (n : Int) (h0 : 1 ≤ n) (h1 : n ≤ 1073741824) : wrap64 (2 ^ lgN n) = cl n ∧ n ≤ cl n ∧ cl n / 2 < n ∧ 1 ≤ cl n ∧ cl n ≤ 1073741824 ∧ lgN n ≤ 30 := by
  obtain ⟨a, b, c⟩ := lgN_spec n h0 (by omega)
  have h30 : lgN n ≤ 30 := by
    rcases b with b | b
    · omega
    · rcases Nat.lt_or_ge 30 (lgN n) with h | h
      · have := Nat.pow_le_pow_right (n := 2) (by omega) (show 30 ≤ lgN n - 1 by omega)
        omega
      · exact h
  have hf := pow_fit (lgN n) (by omega)
  have hcl : cl n = ((2 ^ lgN n : Nat) : Int) := (pow_int _).symm
  have h3 := Nat.pow_le_pow_right (n := 2) (by omega) h30
  have h5 : lgN n = 0 ∨ 2 ^ lgN n = 2 * 2 ^ (lgN n - 1) := by
    by_cases hz : lgN n = 0
    · exact .inl hz
    · right
      rw [← Nat.pow_succ']
      congr 1
      omega
  refine ⟨hf, ?_⟩
  rw [hcl]
  rcases h5 with h5 | h5
  · rw [h5] at a ⊢
    simp at a ⊢
    omega
  · rcases b with b | b
    · rw [b] at a ⊢
      simp at a ⊢
      omega
    · generalize 2 ^ (lgN n - 1) = Q at b h5
      generalize 2 ^ lgN n = P at *
      omega

set_option maxHeartbeats 400000 in
theorem ceil_pos (n : Int) (w : World) (h0 : 1 ≤ n) (h1 : n ≤ 1073741824) : Calls Tryd.prog 24 #[.int .i64 n] w fun e w' => e = .returned (.tuple #[.int .i64 (cl n), .int .i64 0]) ∧ w' = w := by
  obtain ⟨hc, _, _, _, _, h30⟩ := cl_facts n h0 h1
  have HC : Hid (wrap64 (2 ^ lgN n) = cl n) := hc
  clear hc
  go_enter Tryd.func24, Tryd.ntmps24
  go_wp2_with (go_at_call 26; refine (log2_pos _ _ h0 (by omega)).mono ?_; rintro e w' ⟨rfl, rfl⟩)
  go_ret2
  exact ⟨ret2 HC.out rfl, rfl⟩
set_option maxHeartbeats 400000 in
theorem rceil_pos (n : Int) (w : World) (h0 : 1 ≤ n) (h1 : n ≤ 1073741824) : Calls Tryd.prog 25 #[.int .i64 n] w fun e w' => e = .returned (.tuple #[.int .i64 (cl n), .int .i64 0]) ∧ w' = w := by
  obtain ⟨hc, _, _, _, _, h30⟩ := cl_facts n h0 h1
  have HC : Hid (wrap64 (2 ^ lgN n) = cl n) := hc
  clear hc
  go_enter Tryd.func25, Tryd.ntmps25
  go_wp2_with (go_at_call 27; refine (rlog_pos _ _ h0 (by omega)).mono ?_; rintro e w' ⟨rfl, rfl⟩)
  go_ret2
  exact ⟨ret2 HC.out rfl, rfl⟩
def ce (n : Int) : Int := if n < 0 then 1 else if n = 0 then 0 else 14
set_option maxHeartbeats 400000 in
theorem ceil_other (n : Int) (w : World) (h : n < 1 ∨ 1073741824 < n) : Calls Tryd.prog 24 #[.int .i64 n] w fun e w' => e = .returned (.tuple #[.int .i64 0, .int .i64 (ce n)]) ∧ w' = w := by
  go_enter Tryd.func24, Tryd.ntmps24
  go_wp2
  all_goals first | (exfalso; simp_all; omega) | (go_ret2; exact ⟨ret2 rfl (by simp_all [ce]; try omega), rfl⟩)

set_option maxHeartbeats 400000 in
theorem rceil_other (n : Int) (w : World) (h : n < 1 ∨ 1073741824 < n) : Calls Tryd.prog 25 #[.int .i64 n] w fun e w' => e = .returned (.tuple #[.int .i64 0, .int .i64 (ce n)]) ∧ w' = w := by
  go_enter Tryd.func25, Tryd.ntmps25
  go_wp2
  all_goals first | (exfalso; simp_all; omega) | (go_ret2; exact ⟨ret2 rfl (by simp_all [ce]; try omega), rfl⟩)

theorem rlog_any (n : Int) (w : World) (h1 : n ≤ 9223372036854775807) : Calls Tryd.prog 27 #[.int .i64 n] w fun e w' => e = .returned (.int .i64 (lg n)) ∧ w' = w := by
  by_cases h : 1 ≤ n
  · rw [lg_pos n h]; exact rlog_pos n w h h1
  · have : lg n = -1 := by simp [lg]; omega
    rw [this]; exact rlog_neg n w (by omega)

set_option maxHeartbeats 1000000 in
theorem powers_walk (n : Int) (w : World) (h1 : n ≤ 9223372036854775807) (htab : Lib.TabIs Tryd.prog w "internal/strconv.uint64pow10" .u64 Lib.pow10Tab) :
    Calls Tryd.prog 6 #[.int .i64 n] w fun e w' => e = .returned (.bool true) ∧ Below w.heap.size w w' := by
  have H1 : Hid (n ≤ 9223372036854775807) := h1
  clear h1
  by_cases h : 1 ≤ n ∧ n ≤ 1073741824
  · obtain ⟨ha, hb⟩ := h
    obtain ⟨hc, hc1, hc2, hc3, hc4, h30⟩ := cl_facts n ha hb
    have hl := lg_pos n ha
    have hne : (n == 0) = false := by simp; omega
    go_enter Tryd.func6, Tryd.ntmps6
    go_wp2_with (first
      | (go_at_call 24; refine (ceil_pos _ _ ha hb).mono ?_; rintro e w' ⟨rfl, rfl⟩)
      | (go_at_call 25; refine (rceil_pos _ _ ha hb).mono ?_; rintro e w' ⟨rfl, rfl⟩)
      | (go_at_call 26; refine (log2_pos _ _ ha H1.out).mono ?_; rintro e w' ⟨rfl, rfl⟩)
      | (go_at_call 27; refine (rlog_pos _ _ ha H1.out).mono ?_; rintro e w' ⟨rfl, rfl⟩)
      | (go_at_call 10; refine (fixed_any _ htab).mono ?_; rintro e w' ⟨rfl, hb⟩))
    go_ret
    exact ⟨rfl, by assumption⟩
  · have ho : n < 1 ∨ 1073741824 < n := by omega
    by_cases hz : n = 0
    · subst hz
      have hce : ce 0 = 0 := rfl
      go_enter Tryd.func6, Tryd.ntmps6
      go_wp2_with (first
        | (go_at_call 24; refine (ceil_other _ _ ho).mono ?_; rintro e w' ⟨rfl, rfl⟩)
        | (go_at_call 25; refine (rceil_other _ _ ho).mono ?_; rintro e w' ⟨rfl, rfl⟩)
        | (go_at_call 26; refine (log2_any _ _ H1.out).mono ?_; rintro e w' ⟨rfl, rfl⟩)
        | (go_at_call 27; refine (rlog_any _ _ H1.out).mono ?_; rintro e w' ⟨rfl, rfl⟩)
        | (go_at_call 10; refine (fixed_any _ htab).mono ?_; rintro e w' ⟨rfl, hb⟩))
      go_ret
      exact ⟨rfl, by assumption⟩
    · have hce : ¬ ce n = 0 := by unfold ce; split <;> (try split) <;> omega
      have hce' : (ce n == 0) = false := by simpa using hce
      go_enter Tryd.func6, Tryd.ntmps6
      go_wp2_with (first
        | (go_at_call 24; refine (ceil_other _ _ ho).mono ?_; rintro e w' ⟨rfl, rfl⟩)
        | (go_at_call 25; refine (rceil_other _ _ ho).mono ?_; rintro e w' ⟨rfl, rfl⟩)
        | (go_at_call 26; refine (log2_any _ _ H1.out).mono ?_; rintro e w' ⟨rfl, rfl⟩)
        | (go_at_call 27; refine (rlog_any _ _ H1.out).mono ?_; rintro e w' ⟨rfl, rfl⟩)
        | (go_at_call 10; refine (fixed_any _ htab).mono ?_; rintro e w' ⟨rfl, hb⟩))
      go_ret
      exact ⟨rfl, by assumption⟩

#print axioms powers_walk
end Go.Proofs.YtoecfpedpibfiabDoor
