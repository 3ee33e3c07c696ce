/- The walks of Turns, the code's and the reference's, and of the law WordsTurns. -/
import Derived.Test.YtoecfpedpibfiabDoorMul
namespace Go.Proofs.YtoecfpedpibfiabDoor
open Go.RowKit

theorem ret_true {b : Bool} (h : b = true) : Ending.returned (.bool b) = .returned (.bool true) := by rw [h]
theorem ret3 {a b : Int} (h : a = b) : Ending.returned (.tuple #[.int .u64 a, .bool true, .int .i64 0]) = .returned (.tuple #[.int .u64 b, .bool true, .int .i64 0]) := by rw [h]

set_option maxHeartbeats 400000 in
theorem turns_zero (f l : Int) (w : World) : Calls Tryd.prog 28 #[.int .i64 f, .int .i64 l, .int .i64 0] w fun e w' => e = .returned (.tuple #[.int .u64 0, .bool false, .int .i64 1]) ∧ w' = w := by
  go_enter Tryd.func28, Tryd.ntmps28
  go_wp2
  go_ret3
  exact ⟨rfl, rfl⟩
set_option maxHeartbeats 400000 in
theorem turns_none (f l s : Int) (w : World) (hs : (0 < s ∧ l < f) ∨ (s < 0 ∧ f < l)) : Calls Tryd.prog 28 #[.int .i64 f, .int .i64 l, .int .i64 s] w fun e w' => e = .returned (.tuple #[.int .u64 0, .bool false, .int .i64 0]) ∧ w' = w := by
  have h0 : (s == 0) = false := by simp; omega
  rcases hs with ⟨h1, h2⟩ | ⟨h1, h2⟩
  all_goals
    go_enter Tryd.func28, Tryd.ntmps28
    go_wp2
    go_ret3
    exact ⟨rfl, rfl⟩
theorem u64_diff (f l : Int) (h2 : f ≤ l) (hf : -9223372036854775808 ≤ f) (hl : l ≤ 9223372036854775807) : IntKind.u64.wrap (IntKind.u64.wrap l - IntKind.u64.wrap f) = l - f := by
  simp only [IntKind.wrap_u64]; omega
theorem u64_way (f l : Int) (h2 : f ≤ l) (hf : -9223372036854775808 ≤ f) (hl : l ≤ 9223372036854775807) : IntKind.u64.wrap (wrap64 (l - f)) = l - f := by
  simp only [IntKind.wrap_u64]; unfold wrap64; omega
theorem u64_quo (x s : Int) (hx : 0 ≤ x) (hx1 : x ≤ 18446744073709551615) (hs : 0 < s) : IntKind.u64.wrap (x.tdiv s) = x / s := by
  rw [Int.tdiv_eq_ediv_of_nonneg hx, IntKind.wrap_u64]
  have h1 : 0 ≤ x / s := Int.ediv_nonneg hx (by omega)
  have h2 : x / s ≤ x := Int.ediv_le_self _ hx
  omega
theorem u64_neg (s : Int) (h1 : s < 0) (hs : -9223372036854775808 ≤ s) : IntKind.u64.wrap (-(IntKind.u64.wrap s)) = -s := by
  simp only [IntKind.wrap_u64]; omega
theorem i64_neg (s : Int) (h1 : s < 0) (hs : -9223372036854775808 ≤ s) : IntKind.u64.wrap (wrap64 (-s)) = -s := by
  simp only [IntKind.wrap_u64]; unfold wrap64; omega

set_option maxHeartbeats 400000 in
theorem turns_up (f l s : Int) (w : World) (h1 : 0 < s) (h2 : f ≤ l) (hs : s ≤ 9223372036854775807) (hf : -9223372036854775808 ≤ f) (hl : l ≤ 9223372036854775807) :
    Calls Tryd.prog 28 #[.int .i64 f, .int .i64 l, .int .i64 s] w fun e w' => e = .returned (.tuple #[.int .u64 ((l - f) / s), .bool true, .int .i64 0]) ∧ w' = w := by
  have h0 : (s == 0) = false := by simp; omega
  go_enter Tryd.func28, Tryd.ntmps28
  go_wp2
  go_ret3
  exact ⟨ret3 (by rw [u64_diff f l h2 hf hl, u64_quo _ _ (by omega) (by omega) h1]), rfl⟩
set_option maxHeartbeats 400000 in
theorem turns_down (f l s : Int) (w : World) (h1 : s < 0) (h2 : l ≤ f) (hs : -9223372036854775808 ≤ s) (hf : f ≤ 9223372036854775807) (hl : -9223372036854775808 ≤ l) :
    Calls Tryd.prog 28 #[.int .i64 f, .int .i64 l, .int .i64 s] w fun e w' => e = .returned (.tuple #[.int .u64 ((f - l) / (-s)), .bool true, .int .i64 0]) ∧ w' = w := by
  have h0 : (s == 0) = false := by simp; omega
  have hn := u64_neg s h1 hs
  have hnz : ¬ s = 0 := by omega
  go_enter Tryd.func28, Tryd.ntmps28
  go_wp2
  go_ret3
  exact ⟨ret3 (by rw [u64_diff l f h2 hl hf, ← Int.tdiv_neg, u64_quo _ _ (by omega) (by omega) (by omega)]), rfl⟩

/-! ### the reference's -/
set_option maxHeartbeats 400000 in
theorem rturns_zero (f l : Int) (w : World) : Calls Tryd.prog 29 #[.int .i64 f, .int .i64 l, .int .i64 0] w fun e w' => e = .returned (.tuple #[.int .u64 0, .bool false, .int .i64 1]) ∧ w' = w := by
  go_enter Tryd.func29, Tryd.ntmps29
  go_wp2
  go_ret3
  exact ⟨rfl, rfl⟩
set_option maxHeartbeats 400000 in
theorem rturns_none (f l s : Int) (w : World) (hs : (0 < s ∧ l < f) ∨ (s < 0 ∧ f < l)) : Calls Tryd.prog 29 #[.int .i64 f, .int .i64 l, .int .i64 s] w fun e w' => e = .returned (.tuple #[.int .u64 0, .bool false, .int .i64 0]) ∧ w' = w := by
  have h0 : (s == 0) = false := by simp; omega
  rcases hs with ⟨h1, h2⟩ | ⟨h1, h2⟩
  all_goals
    go_enter Tryd.func29, Tryd.ntmps29
    go_wp2
    go_ret3
    exact ⟨rfl, rfl⟩
set_option maxHeartbeats 400000 in
theorem rturns_up (f l s : Int) (w : World) (h1 : 0 < s) (h2 : f ≤ l) (hs : s ≤ 9223372036854775807) (hf : -9223372036854775808 ≤ f) (hl : l ≤ 9223372036854775807) :
    Calls Tryd.prog 29 #[.int .i64 f, .int .i64 l, .int .i64 s] w fun e w' => e = .returned (.tuple #[.int .u64 ((l - f) / s), .bool true, .int .i64 0]) ∧ w' = w := by
  have h0 : (s == 0) = false := by simp; omega
  go_enter Tryd.func29, Tryd.ntmps29
  go_wp2
  go_ret3
  exact ⟨ret3 (by rw [u64_way f l h2 hf hl, u64_quo _ _ (by omega) (by omega) h1]), rfl⟩
set_option maxHeartbeats 400000 in
theorem rturns_down (f l s : Int) (w : World) (h1 : s < 0) (h2 : l ≤ f) (hs : -9223372036854775808 ≤ s) (hf : f ≤ 9223372036854775807) (hl : -9223372036854775808 ≤ l) :
    Calls Tryd.prog 29 #[.int .i64 f, .int .i64 l, .int .i64 s] w fun e w' => e = .returned (.tuple #[.int .u64 ((f - l) / (-s)), .bool true, .int .i64 0]) ∧ w' = w := by
  have h0 : (s == 0) = false := by simp; omega
  have hn := i64_neg s h1 hs
  have hnz : ¬ s = 0 := by omega
  go_enter Tryd.func29, Tryd.ntmps29
  go_wp2
  go_ret3
  exact ⟨ret3 (by rw [u64_way l f h2 hl hf, ← Int.tdiv_neg, u64_quo _ _ (by omega) (by omega) (by omega)]), rfl⟩

/-! ### the law -/
set_option maxHeartbeats 1000000 in
theorem law_zero (f l : Int) (w : World) (htab : Lib.TabIs Tryd.prog w "internal/strconv.uint64pow10" .u64 Lib.pow10Tab) :
    Calls Tryd.prog 7 #[.int .i64 f, .int .i64 l, .int .i64 0] w fun e w' => e = .returned (.bool true) ∧ Below w.heap.size w w' := by
  go_enter Tryd.func7, Tryd.ntmps7
  go_wp2_with (first
    | (go_at_call 28; refine (turns_zero _ _ _).mono ?_; rintro e w' ⟨rfl, rfl⟩)
    | (go_at_call 29; refine (rturns_zero _ _ _).mono ?_; rintro e w' ⟨rfl, rfl⟩)
    | (go_at_call 10; refine (fixed_any _ htab).mono ?_; rintro e w' ⟨rfl, hb⟩))
  go_ret
  exact ⟨rfl, by assumption⟩
set_option maxHeartbeats 1000000 in
theorem law_none (f l s : Int) (w : World) (hs : (0 < s ∧ l < f) ∨ (s < 0 ∧ f < l)) (htab : Lib.TabIs Tryd.prog w "internal/strconv.uint64pow10" .u64 Lib.pow10Tab) :
    Calls Tryd.prog 7 #[.int .i64 f, .int .i64 l, .int .i64 s] w fun e w' => e = .returned (.bool true) ∧ Below w.heap.size w w' := by
  go_enter Tryd.func7, Tryd.ntmps7
  go_wp2_with (first
    | (go_at_call 28; refine (turns_none _ _ _ _ hs).mono ?_; rintro e w' ⟨rfl, rfl⟩)
    | (go_at_call 29; refine (rturns_none _ _ _ _ hs).mono ?_; rintro e w' ⟨rfl, rfl⟩)
    | (go_at_call 10; refine (fixed_any _ htab).mono ?_; rintro e w' ⟨rfl, hb⟩))
  go_ret
  exact ⟨rfl, by assumption⟩

theorem step_in (d s k : Int) (h1 : 0 < s) (hk : k < d / s) : (k + 1) * s ≤ d := by
  have a := Int.ediv_mul_le d (b := s) (by omega)
  have b := Int.mul_le_mul_of_nonneg_right (a := k + 1) (b := d / s) (c := s) (by omega) (by omega)
  omega
theorem step_out (d s : Int) (h1 : 0 < s) : d < (d / s + 1) * s := Int.lt_ediv_add_one_mul_self d h1

set_option maxHeartbeats 2000000 in
theorem law_up (f l s : Int) (w : World) (h1 : 0 < s) (h2 : f ≤ l) (hs : s ≤ 9223372036854775807) (hf : -9223372036854775808 ≤ f) (hl : l ≤ 9223372036854775807) (htab : Lib.TabIs Tryd.prog w "internal/strconv.uint64pow10" .u64 Lib.pow10Tab) :
    Calls Tryd.prog 7 #[.int .i64 f, .int .i64 l, .int .i64 s] w fun e w' => e = .returned (.bool true) ∧ Below w.heap.size w w' := by
  obtain ⟨n, hn⟩ : ∃ n, n = (l - f) / s := ⟨_, rfl⟩
  have hn0 : 0 ≤ n := by rw [hn]; exact Int.ediv_nonneg (by omega) (by omega)
  have C1 : ∀ w, Calls Tryd.prog 28 #[.int .i64 f, .int .i64 l, .int .i64 s] w fun e w' => e = .returned (.tuple #[.int .u64 n, .bool true, .int .i64 0]) ∧ w' = w := fun w => by rw [hn]; exact turns_up f l s w h1 h2 hs hf hl
  have C2 : ∀ w, Calls Tryd.prog 29 #[.int .i64 f, .int .i64 l, .int .i64 s] w fun e w' => e = .returned (.tuple #[.int .u64 n, .bool true, .int .i64 0]) ∧ w' = w := fun w => by rw [hn]; exact rturns_up f l s w h1 h2 hs hf hl
  have HN : Hid (n = (l - f) / s) := hn
  clear hn
  by_cases hbig : 500 < n
  · go_enter Tryd.func7, Tryd.ntmps7
    go_wp2_with (first
      | (go_at_call 28; refine (C1 _).mono ?_; rintro e w' ⟨rfl, rfl⟩)
      | (go_at_call 29; refine (C2 _).mono ?_; rintro e w' ⟨rfl, rfl⟩)
      | (go_at_call 10; refine (fixed_any _ htab).mono ?_; rintro e w' ⟨rfl, hb⟩))
    go_ret
    exact ⟨rfl, by assumption⟩
  · go_enter Tryd.func7, Tryd.ntmps7
    go_wp2_with (first
      | (go_at_call 28; refine (C1 _).mono ?_; rintro e w' ⟨rfl, rfl⟩)
      | (go_at_call 29; refine (C2 _).mono ?_; rintro e w' ⟨rfl, rfl⟩)
      | (go_at_call 10; refine (fixed_any _ htab).mono ?_; rintro e w' ⟨rfl, hb⟩))
    go_loop [13, 14] (fun v i => ∃ (k : Nat) (x : Int), (k : Int) ≤ n ∧ i = .int .u64 k ∧ v = .int .i64 x ∧ Hid (x = f + k * s) ∧ f ≤ x ∧ x ≤ l) (fun _ i => (n - intOf i).toNat)
    case atStart => exact ⟨0, f, by omega, rfl, rfl, by simp [Hid], by omega, by omega⟩
    case round =>
      obtain ⟨k, x, hk, rfl, rfl, HX, hx0, hx1⟩ := hrel
      by_cases hlt : (k : Int) < n
      · have hin : x + s ≤ l := by
          have := step_in (l - f) s k h1 (by rw [← HN.out]; exact hlt)
          rw [HX.out]
          rw [Int.add_mul] at this
          omega
        have HX' : Hid (x + s = f + ((k + 1 : Nat) : Int) * s) := by
          show _ = _
          rw [HX.out]
          push_cast
          rw [Int.add_mul]
          omega
        go_wp2
        go_round
        case rel => exact ⟨k + 1, x + s, by omega, by go_num, by go_num, HX', by omega, by omega⟩
        case measure => simp [intOf]; omega
      · have hkn : (k : Int) = n := by omega
        have hout : l < x + s := by
          have := step_out (l - f) s h1
          rw [← HN.out, ← hkn, Int.add_mul] at this
          rw [HX.out]
          omega
        have HW : Hid (wrap64 (x + s) < x ∨ l < wrap64 (x + s)) := by
          show _ ∨ _
          unfold wrap64; omega
        clear hkn
        go_wp2
        all_goals first | (exfalso; have := HW.out; omega) | (go_ret; exact ⟨rfl, by assumption⟩)

set_option maxHeartbeats 2000000 in
theorem law_down (f l s : Int) (w : World) (h1 : s < 0) (h2 : l ≤ f) (hs : -9223372036854775808 ≤ s) (hf : f ≤ 9223372036854775807) (hl : -9223372036854775808 ≤ l) (htab : Lib.TabIs Tryd.prog w "internal/strconv.uint64pow10" .u64 Lib.pow10Tab) :
    Calls Tryd.prog 7 #[.int .i64 f, .int .i64 l, .int .i64 s] w fun e w' => e = .returned (.bool true) ∧ Below w.heap.size w w' := by
  obtain ⟨n, hn⟩ : ∃ n, n = (f - l) / (-s) := ⟨_, rfl⟩
  have hn0 : 0 ≤ n := by rw [hn]; exact Int.ediv_nonneg (by omega) (by omega)
  have C1 : ∀ w, Calls Tryd.prog 28 #[.int .i64 f, .int .i64 l, .int .i64 s] w fun e w' => e = .returned (.tuple #[.int .u64 n, .bool true, .int .i64 0]) ∧ w' = w := fun w => by rw [hn]; exact turns_down f l s w h1 h2 hs hf hl
  have C2 : ∀ w, Calls Tryd.prog 29 #[.int .i64 f, .int .i64 l, .int .i64 s] w fun e w' => e = .returned (.tuple #[.int .u64 n, .bool true, .int .i64 0]) ∧ w' = w := fun w => by rw [hn]; exact rturns_down f l s w h1 h2 hs hf hl
  have HN : Hid (n = (f - l) / (-s)) := hn
  clear hn
  by_cases hbig : 500 < n
  · go_enter Tryd.func7, Tryd.ntmps7
    go_wp2_with (first
      | (go_at_call 28; refine (C1 _).mono ?_; rintro e w' ⟨rfl, rfl⟩)
      | (go_at_call 29; refine (C2 _).mono ?_; rintro e w' ⟨rfl, rfl⟩)
      | (go_at_call 10; refine (fixed_any _ htab).mono ?_; rintro e w' ⟨rfl, hb⟩))
    go_ret
    exact ⟨rfl, by assumption⟩
  · go_enter Tryd.func7, Tryd.ntmps7
    go_wp2_with (first
      | (go_at_call 28; refine (C1 _).mono ?_; rintro e w' ⟨rfl, rfl⟩)
      | (go_at_call 29; refine (C2 _).mono ?_; rintro e w' ⟨rfl, rfl⟩)
      | (go_at_call 10; refine (fixed_any _ htab).mono ?_; rintro e w' ⟨rfl, hb⟩))
    go_loop [13, 14] (fun v i => ∃ (k : Nat) (x : Int), (k : Int) ≤ n ∧ i = .int .u64 k ∧ v = .int .i64 x ∧ Hid (x = f + k * s) ∧ l ≤ x ∧ x ≤ f) (fun _ i => (n - intOf i).toNat)
    case atStart => exact ⟨0, f, by omega, rfl, rfl, by simp [Hid], by omega, by omega⟩
    case round =>
      obtain ⟨k, x, hk, rfl, rfl, HX, hx0, hx1⟩ := hrel
      by_cases hlt : (k : Int) < n
      · have hin : l ≤ x + s := by
          have := step_in (f - l) (-s) k (by omega) (by rw [← HN.out]; exact hlt)
          rw [HX.out]
          rw [Int.add_mul, Int.mul_neg] at this
          omega
        have HX' : Hid (x + s = f + ((k + 1 : Nat) : Int) * s) := by
          show _ = _
          rw [HX.out]
          push_cast
          rw [Int.add_mul]
          omega
        go_wp2
        go_round
        case rel => exact ⟨k + 1, x + s, by omega, by go_num, by go_num, HX', by omega, by omega⟩
        case measure => simp [intOf]; omega
      · have hkn : (k : Int) = n := by omega
        have hout : x + s < l := by
          have := step_out (f - l) (-s) (by omega)
          rw [← HN.out, ← hkn, Int.add_mul, Int.mul_neg] at this
          rw [HX.out]
          omega
        have HW : Hid (x < wrap64 (x + s) ∨ wrap64 (x + s) < l) := by
          show _ ∨ _
          unfold wrap64; omega
        clear hkn
        go_wp2
        all_goals first | (go_ret; exact ⟨rfl, by assumption⟩) | (go_ret; refine ⟨ret_true ?_, by assumption⟩; have := HW.out; simp only [Bool.or_eq_true, decide_eq_true_eq]; omega)

theorem turns_walk (f l s : Int) (w : World) (hf0 : -9223372036854775808 ≤ f) (hf1 : f ≤ 9223372036854775807) (hl0 : -9223372036854775808 ≤ l) (hl1 : l ≤ 9223372036854775807) (hs0 : -9223372036854775808 ≤ s) (hs1 : s ≤ 9223372036854775807)
    (htab : Lib.TabIs Tryd.prog w "internal/strconv.uint64pow10" .u64 Lib.pow10Tab) : Calls Tryd.prog 7 #[.int .i64 f, .int .i64 l, .int .i64 s] w fun e w' => e = .returned (.bool true) ∧ Below w.heap.size w w' := by
  by_cases h0 : s = 0
  · subst h0; exact law_zero f l w htab
  · by_cases h1 : 0 < s
    · by_cases h2 : f ≤ l
      · exact law_up f l s w h1 h2 hs1 hf0 hl1 htab
      · exact law_none f l s w (.inl ⟨h1, by omega⟩) htab
    · by_cases h2 : l ≤ f
      · exact law_down f l s w (by omega) h2 hs0 hf1 hl0 htab
      · exact law_none f l s w (.inr ⟨by omega, by omega⟩) htab

#print axioms turns_walk
end Go.Proofs.YtoecfpedpibfiabDoor
