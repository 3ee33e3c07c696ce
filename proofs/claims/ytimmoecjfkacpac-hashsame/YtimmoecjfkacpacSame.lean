/- The walk of the law HashSame. -/
import Derived.Test.YtimmoecjfkacpacFix
namespace Go.Proofs.Ytimmoecjfkacpac
open Go.RowKit

theorem int_at (x z : Int) (h0 : 0 ≤ x) (h1 : x ≤ 9223372036854775807) (hz : pw z = true) (h4 : 4 ≤ z) : mnP 2 x ⟨#[]⟩ z = x % (z - 1) ∧ mnE 2 x ⟨#[]⟩ z = 0 := by
  have h : inF 2 x ⟨#[]⟩ = true := by unfold inF; simp
  refine ⟨?_, by simp [mnE, h, hz]⟩
  rw [mnP, if_pos ⟨h, hz, by omega⟩, mp, if_neg (by omega), if_pos rfl, dm, if_neg (by omega)]
  congr 1; omega
theorem far (x y d : Int) (hd : 0 < y - x) (h : y - x < d) : x % d ≠ y % d := by
  intro he
  have := (Int.emod_eq_emod_iff_emod_sub_eq_zero).1 he.symm
  rw [Int.emod_eq_of_lt (by omega) h] at this
  omega

set_option maxHeartbeats 800000 in
theorem same_walk (n k : Int) (w : World) :
    Calls Try.prog 4 #[.int .i64 n, .int .i64 k] w fun e w' => e = .returned (.bool true) ∧ Below w.heap.size w w' := by
  go_enter Try.func4, Try.ntmps4
  go_wp2_with fail
  refine (fixed_any w).mono ?_
  rintro e w0 ⟨rfl, b0⟩
  go_wp2_with fail
  go_loop [5, 6] (fun z i => ∃ j : Nat, j ≤ 14 ∧ i = .int .i64 (j : Nat) ∧ ∃ m : Nat, z = .int .i64 (m : Nat) ∧ Hid (m = 2 ^ (j + 2))) (fun z _ => 200000 - (intOf z).toNat)
  case atStart => exact ⟨0, by omega, rfl, 4, rfl, rfl⟩
  case round =>
    obtain ⟨j, hj, rfl, m, rfl, HM⟩ := hrel
    obtain ⟨q1, q2, q3⟩ := pow_at (j + 2) (by omega)
    rw [← HM.out] at q1 q2 q3
    have Q1 : Hid _ := q1
    have hm2 : 4 ≤ m := by rw [HM.out]; have := Nat.pow_le_pow_right (show 0 < 2 by omega) (show 2 ≤ j + 2 by omega); omega
    clear q1 q2
    by_cases hgo : (j : Int) < k ∧ m < 65536
    · obtain ⟨g1, g2⟩ := hgo
      have g2' : (m : Int) < 65536 := by omega
      have g3 : j ≠ 14 := by intro h; rw [h] at HM; have := HM.out; omega
      go_wp2_with fail
      go_round
      case rel => exact ⟨j + 1, by omega, by go_num, m * 2, by simp, by (show _ = _; rw [HM.out, ← Nat.pow_succ])⟩
      case measure => simp [intOf]; omega
    · have hexit : (¬ (j : Int) < k) ∨ ((j : Int) < k ∧ ¬ (m : Int) < 65536) := by omega
      have P1 : Hid (pw (m : Int) = true) := Q1.out
      clear hgo HM hj
      rcases hexit with g1 | ⟨g1, g2⟩
      all_goals
        go_wp2_with fail
        obtain ⟨N, hN⟩ : ∃ N, wrap64 ((IntKind.u64.wrap n).tmod 1152921504606846976) = N := ⟨_, rfl⟩
        have hN0 : 0 ≤ N ∧ N < 1152921504606846976 := by
          rw [← hN, IntKind.wrap_u64]
          have q0 : 0 ≤ n % 18446744073709551616 := by omega
          rw [Int.tmod_eq_emod_of_nonneg q0]
          unfold wrap64; omega
        simp only [hN]
        clear hN
        obtain ⟨hN0, hN1⟩ := hN0
        have c1 := int_at N m (by omega) (by omega) P1.out (by omega)
        have c2 := int_at (N + m - 1) m (by omega) (by omega) P1.out (by omega)
        have c3 := int_at (N + 1) m (by omega) (by omega) P1.out (by omega)
        have c4 := int_at (N + m - 2) m (by omega) (by omega) P1.out (by omega)
        have k1 : (N + m - 1) % ((m : Int) - 1) = N % ((m : Int) - 1) := by rw [show N + (m : Int) - 1 = N + ((m : Int) - 1) by omega, Int.add_emod_right]
        have k2 : N % ((m : Int) - 1) ≠ (N + 1) % ((m : Int) - 1) := far _ _ _ (by omega) (by omega)
        have k3 : N % ((m : Int) - 1) ≠ (N + m - 2) % ((m : Int) - 1) := far _ _ _ (by omega) (by omega)
        rw [k1] at c2
        generalize N % ((m : Int) - 1) = A at *
        generalize (N + 1) % ((m : Int) - 1) = C at *
        generalize (N + m - 2) % ((m : Int) - 1) = D at *
        have D1 := fun W => main_any 2 N ⟨#[]⟩ m W (by omega) (by omega)
        have D2 := fun W => main_any 2 (N + m - 1) ⟨#[]⟩ m W (by omega) (by omega)
        have D3 := fun W => main_any 2 (N + 1) ⟨#[]⟩ m W (by omega) (by omega)
        have D4 := fun W => main_any 2 (N + m - 2) ⟨#[]⟩ m W (by omega) (by omega)
        rw [c1.1, c1.2] at D1
        rw [c2.1, c2.2] at D2
        rw [c3.1, c3.2] at D3
        rw [c4.1, c4.2] at D4
        have k2' : (A == C) = false := by simpa using k2
        have k3' : (A == D) = false := by simpa using k3
        have K2 : Hid _ := k2
        have K3 : Hid _ := k3
        clear c1 c2 c3 c4 k1 P1 Q1 k2 k3
        unfold vl vb at D1 D2 D3 D4
        have hM : (m : Int) ≤ 65536 := by omega
        have hM2 : 4 ≤ (m : Int) := by omega
        refine (mkI _ _).mono ?_; rintro e W ⟨rfl, rfl⟩
        go_wp2_with fail
        refine (D1 _).mono ?_; rintro e W ⟨rfl, rfl⟩
        go_wp2_with fail
        refine (mkI (N + m - 1) _).mono ?_; rintro e W ⟨rfl, rfl⟩
        go_wp2_with fail
        refine (D2 _).mono ?_; rintro e W ⟨rfl, rfl⟩
        go_wp2_with fail
        refine (mkI (N + 1) _).mono ?_; rintro e W ⟨rfl, rfl⟩
        go_wp2_with fail
        refine (D3 _).mono ?_; rintro e W ⟨rfl, rfl⟩
        go_wp2_with fail
        refine (mkI (N + m - 2) _).mono ?_; rintro e W ⟨rfl, rfl⟩
        go_wp2_with fail
        refine (D4 _).mono ?_; rintro e W ⟨rfl, rfl⟩
        go_wp2_with fail
        go_ret
        refine ⟨ret_bool (by first | rfl | (simp [bne, k2', k3']; done)), ?_⟩
        repeat (first | exact b0 | refine Below.alloc ?_ (by have := b0.size; simp; omega) _)

end Go.Proofs.Ytimmoecjfkacpac
