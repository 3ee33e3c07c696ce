/- The walk of the law HashHalves. -/
import Derived.Test.YtimmoecjfkacpacFix
namespace Go.Proofs.Ytimmoecjfkacpac
open Go.RowKit

set_option maxHeartbeats 600000 in
theorem mkB (w : World) : Calls Try.prog 8 #[.bool true] w fun e w' => e = .returned (vl 1 1 ⟨#[]⟩) ∧ w' = w.alloc (vb 1 1 ⟨#[]⟩) := by
  go_enter Try.func8, Try.ntmps8
  go_wp2
  exact bodyPost_ret (v := vl 1 1 ⟨#[]⟩) (by simp [results, Try.results8, go_sem]) rfl ⟨rfl, rfl⟩

theorem str_at (t : ByteArray) (z : Int) (ht : t.size ≤ 10000) (hz : pw z = true) : mnP 3 0 t z = (fnv t.data.toList : Int) % z ∧ mnE 3 0 t z = 0 := by
  have h : inF 3 0 t = true := by unfold inF; simp; omega
  refine ⟨?_, by simp [mnE, h, hz]⟩
  rw [mnP, if_pos ⟨h, hz, by omega⟩, mp, if_neg (by omega), if_neg (by omega), if_pos rfl]
theorem bool_at (z : Int) (hz : pw z = true) : mnP 1 1 ⟨#[]⟩ z = 1 % z ∧ mnE 1 1 ⟨#[]⟩ z = 0 := by
  have h : inF 1 1 ⟨#[]⟩ = true := by decide +kernel
  refine ⟨?_, by simp [mnE, h, hz]⟩
  rw [mnP, if_pos ⟨h, hz, by omega⟩, mp, if_pos rfl]

set_option maxHeartbeats 2000000 in
theorem halves_walk (s : ByteArray) (k : Int) (w : World) (hs : s.size ≤ 140737488351232) :
    Calls Try.prog 3 #[.string s, .int .i64 k] w fun e w' => e = .returned (.bool true) ∧ Below w.heap.size w w' := by
  obtain ⟨t, ht, hcase⟩ : ∃ t : ByteArray, t.size ≤ 10000 ∧ ((t = s ∧ ¬ (10000 : Int) < s.size) ∨ (s.extract 0 10000 = t ∧ (10000 : Int) < s.size)) := by
    by_cases h : s.size ≤ 10000
    · exact ⟨s, h, Or.inl ⟨rfl, by omega⟩⟩
    · exact ⟨_, by rw [ByteArray.size_extract]; omega, Or.inr ⟨rfl, by omega⟩⟩
  rcases hcase with ⟨rfl, h1⟩ | ⟨h0, h1⟩
  all_goals
    go_enter Try.func3, Try.ntmps3
    go_wp2_with fail
    refine (fixed_any w).mono ?_
    rintro e w0 ⟨rfl, b0⟩
    go_wp2_with fail
    go_loop [5, 6] (fun z i => ∃ j : Nat, j ≤ 15 ∧ i = .int .i64 (j : Nat) ∧ ∃ m : Nat, z = .int .i64 (m : Nat) ∧ Hid (m = 2 ^ (j + 1))) (fun z _ => 200000 - (intOf z).toNat)
    case atStart => exact ⟨0, by omega, rfl, 2, rfl, rfl⟩
    case round =>
      obtain ⟨j, hj, rfl, m, rfl, HM⟩ := hrel
      obtain ⟨q1, q2, q3⟩ := pow_at (j + 1) (by omega)
      rw [← HM.out] at q1 q2 q3
      have Q1 : Hid _ := q1
      have Q2 : Hid _ := (pow_at j (by omega)).1
      have hm2 : 2 ≤ m := by rw [HM.out]; have := Nat.pow_le_pow_right (show 0 < 2 by omega) (show 1 ≤ j + 1 by omega); omega
      have HM2 : Hid (m / 2 = 2 ^ j ∧ m = 2 * (m / 2)) := by rw [HM.out, Nat.pow_succ]; exact ⟨by omega, by omega⟩
      clear q1 q2
      by_cases hgo : (j : Int) < k ∧ m < 65536
      · obtain ⟨g1, g2⟩ := hgo
        have g2' : (m : Int) < 65536 := by omega
        have g3 : j ≠ 15 := by intro h; rw [h] at HM; have := HM.out; omega
        go_wp2_with fail
        go_round
        case rel => exact ⟨j + 1, by omega, by go_num, m * 2, by simp, by (show _ = _; rw [HM.out, ← Nat.pow_succ])⟩
        case measure => simp [intOf]; omega
      · have hexit : (¬ (j : Int) < k) ∨ ((j : Int) < k ∧ ¬ (m : Int) < 65536) := by omega
        obtain ⟨h, hh⟩ : ∃ h, m / 2 = h := ⟨_, rfl⟩
        have P1 : Hid (pw (m : Int) = true) := Q1.out
        have P2 : Hid (pw (h : Int) = true) := by rw [← hh, HM2.out.1]; exact Q2.out
        have C1 := fun W => main_any 3 0 t m W (by omega) (by omega)
        have C2 := fun W => main_any 3 0 t h W (by omega) (by omega)
        have C3 := fun W => main_any 1 1 ⟨#[]⟩ m W (by omega) (by omega)
        rw [(str_at t m ht P1.out).1, (str_at t m ht P1.out).2] at C1
        rw [(str_at t h ht P2.out).1, (str_at t h ht P2.out).2] at C2
        rw [(bool_at m P1.out).1, (bool_at m P1.out).2] at C3
        have C4 := mkS t
        have HMH : Hid (m = 2 * h) := by show _ = _; rw [← hh]; exact HM2.out.2
        have h0' : 1 ≤ h := by omega
        have hh2 : h ≤ 32768 := by omega
        have hq : (m : Int) / 2 = h := by omega
        obtain ⟨f, hf⟩ : ∃ f, (fnv t.data.toList) = f := ⟨_, rfl⟩
        rw [hf] at C1 C2
        have HA : Hid ((f : Int) % m % h = f % h ∧ (1 : Int) % m = 1 ∧ (f : Int) % m < m ∧ 0 ≤ (f : Int) % m) := by
          refine ⟨Int.emod_emod_of_dvd _ ⟨2, by have := HMH.out; omega⟩, Int.emod_eq_of_lt (by omega) (by omega), Int.emod_lt_of_pos _ (by omega), Int.emod_nonneg _ (by omega)⟩
        rw [HA.out.2.1] at C3
        obtain ⟨a, ha⟩ : ∃ a, (f : Int) % m = a := ⟨_, rfl⟩
        obtain ⟨b, hb⟩ : ∃ b, (f : Int) % h = b := ⟨_, rfl⟩
        rw [ha] at C1
        rw [hb] at C2
        obtain ⟨a1, _, a2, a3⟩ := HA.out
        rw [ha] at a2 a3
        rw [ha, hb] at a1
        have HB : Hid (a.tmod h = b) := by show _ = _; rw [Int.tmod_eq_emod_of_nonneg a3]; exact a1
        clear Q1 Q2 HM2 hgo hh P1 P2 HMH HA hf ha hb a1 hj HM
        unfold vl vb at C1 C2 C3 C4
        rcases hexit with g1 | ⟨g1, g2⟩
        all_goals
          go_wp2_with fail
          refine (C4 _).mono ?_; rintro e W ⟨rfl, rfl⟩
          go_wp2_with fail
          refine (C1 _).mono ?_; rintro e W ⟨rfl, rfl⟩
          go_wp2_with fail
          refine (C4 _).mono ?_; rintro e W ⟨rfl, rfl⟩
          go_wp2_with fail
          refine (C2 _).mono ?_; rintro e W ⟨rfl, rfl⟩
          go_wp2_with fail
          refine (mkB _).mono ?_; rintro e W ⟨rfl, rfl⟩
          go_wp2_with fail
          refine (C3 _).mono ?_; rintro e W ⟨rfl, rfl⟩
          have hb2 := HB.out
          go_wp2_with fail
          go_ret
          refine ⟨rfl, ?_⟩
          repeat (first | exact b0 | refine Below.alloc ?_ (by have := b0.size; simp; omega) _)

end Go.Proofs.Ytimmoecjfkacpac
