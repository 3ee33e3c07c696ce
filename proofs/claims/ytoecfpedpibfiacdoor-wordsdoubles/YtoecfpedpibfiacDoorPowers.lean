/- The walks of Log2 and Ceil2, the reference's by doubling, and of the law WordsPowers. -/
import Derived.Test.YtoecfpedpibfiacDoorFix
import Derived.Lib.ItoaNum
import Derived.Lib.BitFns
namespace Go.Proofs.YtoecfpedpibfiacDoor
open Go.RowKit

/-- The least k with n at most 2^k, of a number from 1 on; that power. -/
def lgN (n : Int) : Nat := Lib.bitLen (n.toNat - 1)
def cl (n : Int) : Int := 2 ^ lgN n

theorem lgN_spec (n : Int) (h0 : 1 ≤ n) (h1 : n ≤ 9223372036854775807) : n.toNat ≤ 2 ^ lgN n ∧ (lgN n = 0 ∨ 2 ^ (lgN n - 1) < n.toNat) ∧ lgN n ≤ 63 := by
  unfold lgN Lib.bitLen
  have hle := Lib.bitLen_le (n.toNat - 1) 63 (by omega) (by omega)
  unfold Lib.bitLen at hle
  by_cases hz : n.toNat - 1 = 0
  · rw [hz, Lib.bitLenAux_zero]
    exact ⟨by omega, .inl rfl, by omega⟩
  · obtain ⟨a, b, c⟩ := Lib.bitLenAux_bounds 64 (n.toNat - 1) (by omega) hz
    exact ⟨by omega, .inr (by omega), hle⟩

theorem lgN_unique (n : Int) (k : Nat) (h0 : 1 ≤ n) (h1 : n ≤ 9223372036854775807) (ha : n.toNat ≤ 2 ^ k) (hb : k = 0 ∨ 2 ^ (k - 1) < n.toNat) : k = lgN n := by
  obtain ⟨sa, sb, _⟩ := lgN_spec n h0 h1
  rcases Nat.lt_trichotomy k (lgN n) with h | h | h
  · rcases sb with sb | sb
    · omega
    · have := Nat.pow_le_pow_right (n := 2) (by omega) (show k ≤ lgN n - 1 by omega)
      omega
  · exact h
  · rcases hb with hb | hb
    · omega
    · have := Nat.pow_le_pow_right (n := 2) (by omega) (show lgN n ≤ k - 1 by omega)
      omega

theorem pow_int (k : Nat) : ((2 ^ k : Nat) : Int) = (2 : Int) ^ k := by simp
theorem pow_fit (k : Nat) (h : k ≤ 62) : wrap64 (2 ^ k) = 2 ^ k := by
  have h1 := Nat.pow_le_pow_right (n := 2) (by omega) h
  have h2 := pow_int k
  rw [← h2]
  generalize 2 ^ k = P at h1
  exact wrap64_id _ (by omega) (by omega)

theorem lg_pos (n : Int) (h : 1 ≤ n) : lg n = (lgN n : Int) := by
  unfold lg lgN
  rw [if_neg (by omega)]

theorem log2_pos (n : Int) (w : World) (h0 : 1 ≤ n) (h1 : n ≤ 9223372036854775807) : Calls Tryd.prog 12 #[.int .i64 n] w fun e w' => e = .returned (.int .i64 (lgN n)) ∧ w' = w := by
  rw [← lg_pos n h0]
  exact log2_any n w h1

/-! ### Ceil2 -/
theorem cl_facts (n : Int) (h0 : 1 ≤ n) (h1 : n ≤ 1073741824) : wrap64 (2 ^ lgN n) = cl n ∧ n ≤ cl n ∧ cl n / 2 < n ∧ 1 ≤ cl n ∧ cl n ≤ 1073741824 ∧ lgN n ≤ 30 := by
  obtain ⟨a, b, c⟩ := lgN_spec n h0 (by omega)
  have h30 : lgN n ≤ 30 := by
    rcases b with b | b
    · omega
    · rcases Nat.lt_or_ge 30 (lgN n) with h | h
      · have := Nat.pow_le_pow_right (n := 2) (by omega) (show 30 ≤ lgN n - 1 by omega)
        omega
      · exact h
  have hf := pow_fit (lgN n) (by omega)
  have hcl : cl n = ((2 ^ lgN n : Nat) : Int) := (pow_int _).symm
  have h3 := Nat.pow_le_pow_right (n := 2) (by omega) h30
  have h5 : lgN n = 0 ∨ 2 ^ lgN n = 2 * 2 ^ (lgN n - 1) := by
    by_cases hz : lgN n = 0
    · exact .inl hz
    · right
      rw [← Nat.pow_succ']
      congr 1
      omega
  refine ⟨hf, ?_⟩
  rw [hcl]
  rcases h5 with h5 | h5
  · rw [h5] at a ⊢
    simp at a ⊢
    omega
  · rcases b with b | b
    · rw [b] at a ⊢
      simp at a ⊢
      omega
    · generalize 2 ^ (lgN n - 1) = Q at b h5
      generalize 2 ^ lgN n = P at *
      omega

set_option maxHeartbeats 400000 in
theorem ceil_pos (n : Int) (w : World) (h0 : 1 ≤ n) (h1 : n ≤ 1073741824) : Calls Tryd.prog 11 #[.int .i64 n] w fun e w' => e = .returned (.tuple #[.int .i64 (cl n), .int .i64 0]) ∧ w' = w := by
  obtain ⟨hc, _, _, _, _, h30⟩ := cl_facts n h0 h1
  have HC : Hid (wrap64 (2 ^ lgN n) = cl n) := hc
  clear hc
  go_enter Tryd.func11, Tryd.ntmps11
  go_wp2_with (go_at_call 12; refine (log2_pos _ _ h0 (by omega)).mono ?_; rintro e w' ⟨rfl, rfl⟩)
  go_ret2
  exact ⟨ret2 HC.out rfl, rfl⟩
#print axioms ceil_pos
end Go.Proofs.YtoecfpedpibfiacDoor
