/- The walks of the reference's Place and Main. -/
import Derived.Test.YtbkgbojfjijalaaMain
namespace Go.Proofs.Ytbkgbojfjijalaa
open Go.RowKit

theorem wtm (x d : Int) (h : 1 ≤ d) (h' : d ≤ 65536) : wrap64 ((IntKind.u64.wrap x).tmod d) = (x % 18446744073709551616) % d := by
  rw [IntKind.wrap_u64]
  have q0 : 0 ≤ x % 18446744073709551616 := by omega
  rw [Int.tmod_eq_emod_of_nonneg q0]
  have q1 := Int.emod_nonneg (x % 18446744073709551616) (show d ≠ 0 by omega)
  have q2 := Int.emod_lt_of_pos (x % 18446744073709551616) (show 0 < d by omega)
  unfold wrap64; omega
theorem wtm2 (n k d : Int) (h : 1 ≤ d) (h' : d ≤ 65536) : wrap64 ((IntKind.u64.wrap (IntKind.u64.wrap (n * 4) + k)).tmod d) = ((4 * n + k) % 18446744073709551616) % d := by
  rw [wtm _ _ h h', IntKind.wrap_u64]
  congr 1; omega

set_option maxHeartbeats 600000 in
theorem rplace_any (k n : Int) (s : ByteArray) (z : Int) (w : World) (hn0 : -9223372036854775808 ≤ n) (hn1 : n ≤ 9223372036854775807) (hF : inF k n s = true) (hP : pw z = true) (hk0 : k ≠ 0) :
    Calls Try.prog 35 #[vl k n s, .int .i64 z] w fun e w' => e = .returned (.int .i64 (mp k n s z)) ∧ w' = w.alloc (vb k n s) := by
  unfold vl vb at *
  obtain ⟨hz0, hz1⟩ := pw_bounds z hP
  have HK : Hid _ := inF_kind k n s hF
  clear hF hP
  rcases HK.out with h | ⟨h, hn⟩ | h | ⟨h, hs⟩ | ⟨h, hn⟩
  · exact absurd h hk0
  · subst h
    clear hk0
    have e1 : mp 1 n s z = n % z := by simp [mp]
    rw [e1]
    clear e1
    have HT : Hid (n.tmod z = n % z) := Int.tmod_eq_emod_of_nonneg (by omega)
    by_cases hz : z = 1
    · subst hz
      go_enter Try.func35, Try.ntmps35
      go_wp2
      go_ret; exact ⟨ret1 (by first | rfl | exact HT.out | omega), rfl⟩
    · go_enter Try.func35, Try.ntmps35
      go_wp2
      go_ret; exact ⟨ret1 (by first | rfl | exact HT.out | omega), rfl⟩
  · subst h
    clear hk0
    have e1 : mp 2 n s z = (n % 18446744073709551616) % dm z := by simp [mp]
    rw [e1]
    clear e1
    by_cases hz : z = 1
    · subst hz
      have hd : dm 1 = 1 := rfl
      rw [hd]
      clear hd
      go_enter Try.func35, Try.ntmps35
      go_wp2
      go_ret; exact ⟨ret1 (by first | rfl | omega), rfl⟩
    · have hd : dm z = z - 1 := by unfold dm; rw [if_neg hz]
      rw [hd]
      clear hd
      go_enter Try.func35, Try.ntmps35
      go_wp2
      go_ret; refine ⟨ret1 ?_, rfl⟩
      exact wtm _ _ (by omega) (by omega)
  · subst h
    clear hk0
    have e1 : mp 3 n s z = (fnv s.data.toList : Int) % z := by simp [mp]
    have C3 := fun w => rof_any s w (by omega)
    obtain ⟨f, hf⟩ : ∃ f, (fnv s.data.toList) = f := ⟨_, rfl⟩
    rw [hf] at C3 e1
    clear hf
    rw [e1]
    clear e1
    by_cases hz : z = 1
    · subst hz
      go_enter Try.func35, Try.ntmps35
      go_wp2_with (go_at_call 44; refine (C3 _).mono ?_; rintro e w' ⟨rfl, rfl⟩)
      go_ret; exact ⟨ret1 (by first | rfl | omega | (simp; done)), rfl⟩
    · go_enter Try.func35, Try.ntmps35
      go_wp2_with (go_at_call 44; refine (C3 _).mono ?_; rintro e w' ⟨rfl, rfl⟩)
      go_ret; exact ⟨ret1 (by first | rfl | exact Int.tmod_eq_emod_of_nonneg (by omega)), rfl⟩
  · have e1 : mp k n s z = ((4 * n + k) % 18446744073709551616) % dm z := by
      rw [mp, if_neg (by omega), if_neg (by omega), if_neg (by omega)]
    rw [e1]
    clear e1
    have hu : n % 18446744073709551616 = n := by omega
    by_cases hz : z = 1
    · subst hz
      have hd : dm 1 = 1 := rfl
      rw [hd]
      clear hd
      rcases h with h | h | h
      all_goals
        subst h
        go_enter Try.func35, Try.ntmps35
        go_wp2
        go_ret; exact ⟨ret1 (by first | rfl | omega), rfl⟩
    · have hd : dm z = z - 1 := by unfold dm; rw [if_neg hz]
      rw [hd]
      clear hd
      rcases h with h | h | h
      all_goals
        subst h
        go_enter Try.func35, Try.ntmps35
        go_wp2
        go_ret; refine ⟨ret1 ?_, rfl⟩
        rw [wtm2 _ _ _ (by omega) (by omega)]

end Go.Proofs.Ytbkgbojfjijalaa
