/- The walks of Main and of the reference's Place and Main. -/
import Derived.Test.YtbkgbojfjijalaaSize
namespace Go.Proofs.Ytbkgbojfjijalaa
open Go.RowKit

/-- The main position of a key in form among a right number of nodes. -/
def dm (z : Int) : Int := if z = 1 then 1 else z - 1
def mp (k n : Int) (s : ByteArray) (z : Int) : Int :=
  if k = 1 then n % z else if k = 2 then (n % 18446744073709551616) % dm z else if k = 3 then (fnv s.data.toList : Int) % z
  else ((4 * n + k) % 18446744073709551616) % dm z
def mnP (k n : Int) (s : ByteArray) (z : Int) : Int := if inF k n s = true ∧ pw z = true ∧ k ≠ 0 then mp k n s z else 0
def mnE (k n : Int) (s : ByteArray) (z : Int) : Int := if inF k n s = true then (if pw z = true then (if k = 0 then 9 else 0) else 1) else 2
theorem dm_pos (z : Int) (h : 1 ≤ z) (h' : z ≤ 65536) : 1 ≤ dm z ∧ dm z ≤ 65536 ∧ dm z ≤ z := by unfold dm; split <;> omega
theorem ret2 {a b c d : Int} (h : a = b) (h' : c = d) : Ending.returned (.tuple #[.int .i64 a, .int .i64 c]) = .returned (.tuple #[.int .i64 b, .int .i64 d]) := by rw [h, h']
theorem inF_kind (k n : Int) (s : ByteArray) (h : inF k n s = true) : k = 0 ∨ (k = 1 ∧ (n = 0 ∨ n = 1)) ∨ k = 2 ∨ (k = 3 ∧ s.size ≤ 10000) ∨ ((k = 4 ∨ k = 5 ∨ k = 6) ∧ 1 ≤ n) := by
  unfold inF at h
  repeat' split at h
  all_goals simp_all
  all_goals omega

theorem b2 (w : World) (o p : Obj) : Below w.heap.size w ((w.alloc o).alloc p) := ((Below.refl _ w).alloc (Nat.le_refl _) o).alloc (by simp) p

set_option maxHeartbeats 2000000 in
theorem main_any (k n : Int) (s : ByteArray) (z : Int) (w : World) (hn0 : -9223372036854775808 ≤ n) (hn1 : n ≤ 9223372036854775807) :
    Calls Try.prog 26 #[vl k n s, .int .i64 z] w fun e w' => e = .returned (.tuple #[.int .i64 (mnP k n s z), .int .i64 (mnE k n s z)]) ∧ w' = (w.alloc (vb k n s)).alloc (vb k n s) := by
  have C1 := check_any k n s
  have C2 := isSize_any z
  unfold vl vb at *
  cases hF : inF k n s
  · have hc : chk k n s = 2 := by simp [chk, hF]
    have e1 : mnP k n s z = 0 := by simp [mnP, hF]
    have e2 : mnE k n s z = 2 := by simp [mnE, hF]
    rw [hc] at C1
    rw [e1, e2]
    clear e1 e2 hc
    go_enter Try.func26, Try.ntmps26
    go_wp2_with (go_at_call 31; refine (C1 _).mono ?_; rintro e w' ⟨rfl, rfl⟩)
    go_ret2
    exact ⟨rfl, rfl⟩
  · have hc : chk k n s = 0 := by simp [chk, hF]
    rw [hc] at C1
    clear hc
    cases hP : pw z
    · have e1 : mnP k n s z = 0 := by simp [mnP, hP]
      have e2 : mnE k n s z = 1 := by simp [mnE, hF, hP]
      rw [hP] at C2
      rw [e1, e2]
      clear e1 e2
      go_enter Try.func26, Try.ntmps26
      go_wp2_with (first | (go_at_call 31; refine (C1 _).mono ?_; rintro e w' ⟨rfl, rfl⟩) | (go_at_call 37; refine (C2 _).mono ?_; rintro e w' ⟨rfl, rfl⟩))
      go_ret2
      exact ⟨rfl, rfl⟩
    · rw [hP] at C2
      obtain ⟨hz0, hz1⟩ := pw_bounds z hP
      obtain ⟨hd0, hd1, hd2⟩ := dm_pos z hz0 hz1
      have HK : Hid _ := inF_kind k n s hF
      have HF : Hid _ := hF
      have HP : Hid _ := hP
      clear hF hP
      rcases HK.out with h | ⟨h, hn⟩ | h | ⟨h, hs⟩ | ⟨h, hn⟩
      · subst h
        have e1 : mnP 0 n s z = 0 := by simp [mnP]
        have e2 : mnE 0 n s z = 9 := by simp [mnE, HF.out, HP.out]
        rw [e1, e2]
        clear e1 e2
        go_enter Try.func26, Try.ntmps26
        go_wp2_with (first | (go_at_call 31; refine (C1 _).mono ?_; rintro e w' ⟨rfl, rfl⟩) | (go_at_call 37; refine (C2 _).mono ?_; rintro e w' ⟨rfl, rfl⟩))
        go_ret2
        exact ⟨rfl, rfl⟩
      · subst h
        have e1 : mnP 1 n s z = n % z := by simp [mnP, mp, HF.out, HP.out]
        have e2 : mnE 1 n s z = 0 := by simp [mnE, HF.out, HP.out]
        have hq : n.tmod z = n % z := Int.tmod_eq_emod_of_nonneg (by omega)
        rw [e1, e2]
        clear e1 e2
        go_enter Try.func26, Try.ntmps26
        go_wp2_with (first | (go_at_call 31; refine (C1 _).mono ?_; rintro e w' ⟨rfl, rfl⟩) | (go_at_call 37; refine (C2 _).mono ?_; rintro e w' ⟨rfl, rfl⟩))
        go_ret2
        exact ⟨ret2 (by first | rfl | omega) rfl, rfl⟩
      · subst h
        have e1 : mnP 2 n s z = (n % 18446744073709551616) % dm z := by simp [mnP, mp, HF.out, HP.out]
        have e2 : mnE 2 n s z = 0 := by simp [mnE, HF.out, HP.out]
        have C3 := fun w => spread_any (n % 18446744073709551616) z w (by omega) (by omega) hz0 hz1
        rw [show (if z = 1 then (1 : Int) else z - 1) = dm z from rfl] at C3
        rw [e1, e2]
        clear e1 e2
        go_enter Try.func26, Try.ntmps26
        go_wp2_with (first | (go_at_call 31; refine (C1 _).mono ?_; rintro e w' ⟨rfl, rfl⟩) | (go_at_call 37; refine (C2 _).mono ?_; rintro e w' ⟨rfl, rfl⟩) | (go_at_call 38; refine (C3 _).mono ?_; rintro e w' ⟨rfl, rfl⟩))
        go_ret2
        exact ⟨rfl, rfl⟩
      · subst h
        have e1 : mnP 3 n s z = (fnv s.data.toList : Int) % z := by simp [mnP, mp, HF.out, HP.out]
        have e2 : mnE 3 n s z = 0 := by simp [mnE, HF.out, HP.out]
        have C3 := fun w => of_any s w (by omega)
        obtain ⟨f, hf⟩ : ∃ f, (fnv s.data.toList) = f := ⟨_, rfl⟩
        rw [hf] at C3 e1
        clear hf
        rw [e1, e2]
        clear e1 e2
        go_enter Try.func26, Try.ntmps26
        go_wp2_with (first | (go_at_call 31; refine (C1 _).mono ?_; rintro e w' ⟨rfl, rfl⟩) | (go_at_call 37; refine (C2 _).mono ?_; rintro e w' ⟨rfl, rfl⟩) | (go_at_call 39; refine (C3 _).mono ?_; rintro e w' ⟨rfl, rfl⟩))
        go_ret2
        exact ⟨ret2 (by first | rfl | exact Int.tmod_eq_emod_of_nonneg (by omega)) rfl, rfl⟩
      · have e1 : mnP k n s z = ((4 * n + k) % 18446744073709551616) % dm z := by
          rw [mnP, if_pos ⟨HF.out, HP.out, by omega⟩, mp, if_neg (by omega), if_neg (by omega), if_neg (by omega)]
        have e2 : mnE k n s z = 0 := by simp [mnE, HF.out, HP.out]; omega
        have C3 := fun w => spread_any ((4 * n % 18446744073709551616 + k) % 18446744073709551616) z w (by omega) (by omega) hz0 hz1
        rw [show (if z = 1 then (1 : Int) else z - 1) = dm z from rfl] at C3
        rw [e1, e2]
        clear e1 e2
        have hu : n % 18446744073709551616 = n := by omega
        have huk : k % 18446744073709551616 = k := by omega
        rcases h with h | h | h
        all_goals
          subst h
          go_enter Try.func26, Try.ntmps26
          go_wp2_with (first | (go_at_call 31; refine (C1 _).mono ?_; rintro e w' ⟨rfl, rfl⟩) | (go_at_call 37; refine (C2 _).mono ?_; rintro e w' ⟨rfl, rfl⟩) | (go_at_call 38; refine (C3 _).mono ?_; rintro e w' ⟨rfl, rfl⟩))
          go_ret2
          exact ⟨ret2 (by first | rfl | omega) rfl, rfl⟩

end Go.Proofs.Ytbkgbojfjijalaa
