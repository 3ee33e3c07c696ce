/- The walks of the reference's Of, Place and key. -/
import Derived.Test.YtkmopcanaalemabGreatCg08
namespace Go.Proofs.YtkmopcanaalemabGreat
open Go.RowKit
set_option maxHeartbeats 1000000 in
theorem rof_any (s : ByteArray) (w : World) (hs : s.size ≤ 9223372036854775807) :
    Calls Tryz.prog 117 #[.string s] w fun e w' => e = .returned (.int .i64 (fnv s.data.toList)) ∧ w' = w := by
  go_enter Tryz.func117, Tryz.ntmps117
  go_wp2
  go_loop [3, 4] (fun h i => ∃ k : Nat, k ≤ s.size ∧ i = .int .i64 k ∧ ∃ m : Nat, h = .int .i64 (m : Nat) ∧ Hid (m = fnv (s.data.toList.take k))) (fun _ i => s.size - (intOf i).toNat)
  case atStart => exact ⟨0, Nat.zero_le _, rfl, 2166136261, rfl, rfl⟩
  case round =>
    obtain ⟨k, hk, rfl, m, rfl, HM⟩ := hrel
    by_cases hlt : k < s.size
    · have hm : m < 4294967296 := by rw [HM.out]; exact fnv_lt _
      have h1 : Hid _ := step_i64 m s[k] hm
      have HM2 : Hid (fnv1 m s[k] = fnv (s.data.toList.take (k + 1))) := by
        show _ = _
        rw [take_snoc s k hlt, fnv_snoc, HM.out]
      clear HM
      go_wp2
      go_round
      case rel => exact ⟨k + 1, by omega, by go_num, fnv1 m s[k], congrArg (Value.int .i64) h1.out, HM2⟩
      case measure => simp [intOf]; omega
    · have HT := take_all s k hlt
      rw [HT] at HM
      have hm : m < 4294967296 := by rw [HM.out]; exact fnv_lt _
      clear HT
      go_wp2
      go_ret
      exact ⟨ret1 (by rw [HM.out]), rfl⟩

set_option maxHeartbeats 600000 in
theorem rplace_any (k n : Int) (s : ByteArray) (z : Int) (w : World) (hn0 : -9223372036854775808 ≤ n) (hn1 : n ≤ 9223372036854775807) (hF : inF k n s = true) (hP : pw z = true) (hk0 : k ≠ 0) :
    Calls Tryz.prog 94 #[vl k n s, .int .i64 z] w fun e w' => e = .returned (.int .i64 (mp k n s z)) ∧ w' = w.alloc (vb k n s) := by
  unfold vl vb at *
  obtain ⟨hz0, hz1⟩ := pw_bounds z hP
  have HK : Hid _ := inF_kind k n s hF
  clear hF hP
  rcases HK.out with h | ⟨h, hn⟩ | h | ⟨h, hs⟩ | ⟨h, hn⟩
  · exact absurd h hk0
  · subst h
    clear hk0
    have e1 : mp 1 n s z = n % z := by simp [mp]
    rw [e1]
    clear e1
    have HT : Hid (n.tmod z = n % z) := Int.tmod_eq_emod_of_nonneg (by omega)
    by_cases hz : z = 1
    · subst hz
      go_enter Tryz.func94, Tryz.ntmps94
      go_wp2
      go_ret; exact ⟨ret1 (by first | rfl | exact HT.out | omega), rfl⟩
    · go_enter Tryz.func94, Tryz.ntmps94
      go_wp2
      go_ret; exact ⟨ret1 (by first | rfl | exact HT.out | omega), rfl⟩
  · subst h
    clear hk0
    have e1 : mp 2 n s z = (n % 18446744073709551616) % dm z := by simp [mp]
    rw [e1]
    clear e1
    by_cases hz : z = 1
    · subst hz
      have hd : dm 1 = 1 := rfl
      rw [hd]
      clear hd
      go_enter Tryz.func94, Tryz.ntmps94
      go_wp2
      go_ret; exact ⟨ret1 (by first | rfl | omega), rfl⟩
    · have hd : dm z = z - 1 := by unfold dm; rw [if_neg hz]
      rw [hd]
      clear hd
      go_enter Tryz.func94, Tryz.ntmps94
      go_wp2
      go_ret; refine ⟨ret1 ?_, rfl⟩
      exact wtm _ _ (by omega) (by omega)
  · subst h
    clear hk0
    have e1 : mp 3 n s z = (fnv s.data.toList : Int) % z := by simp [mp]
    have C3 := fun w => rof_any s w (by omega)
    obtain ⟨f, hf⟩ : ∃ f, (fnv s.data.toList) = f := ⟨_, rfl⟩
    rw [hf] at C3 e1
    clear hf
    rw [e1]
    clear e1
    by_cases hz : z = 1
    · subst hz
      go_enter Tryz.func94, Tryz.ntmps94
      go_wp2_with (go_at_call 117; refine (C3 _).mono ?_; rintro e w' ⟨rfl, rfl⟩)
      go_ret; exact ⟨ret1 (by first | rfl | omega | (simp; done)), rfl⟩
    · go_enter Tryz.func94, Tryz.ntmps94
      go_wp2_with (go_at_call 117; refine (C3 _).mono ?_; rintro e w' ⟨rfl, rfl⟩)
      go_ret; exact ⟨ret1 (by first | rfl | exact Int.tmod_eq_emod_of_nonneg (by omega)), rfl⟩
  · have e1 : mp k n s z = ((4 * n + k) % 18446744073709551616) % dm z := by
      rw [mp, if_neg (by omega), if_neg (by omega), if_neg (by omega)]
    rw [e1]
    clear e1
    have hu : n % 18446744073709551616 = n := by omega
    by_cases hz : z = 1
    · subst hz
      have hd : dm 1 = 1 := rfl
      rw [hd]
      clear hd
      rcases h with h | h | h
      all_goals
        subst h
        go_enter Tryz.func94, Tryz.ntmps94
        go_wp2
        go_ret; exact ⟨ret1 (by first | rfl | omega), rfl⟩
    · have hd : dm z = z - 1 := by unfold dm; rw [if_neg hz]
      rw [hd]
      clear hd
      rcases h with h | h | h
      all_goals
        subst h
        go_enter Tryz.func94, Tryz.ntmps94
        go_wp2
        go_ret; refine ⟨ret1 ?_, rfl⟩
        rw [wtm2 _ _ _ (by omega) (by omega)]

set_option maxHeartbeats 2000000 in
theorem rkey_any {S ka va ca z : Nat} {g : G} {cb : Nat → Nat} (k : V) (w : World) (h : Rp w S ka va ca z g cb) : Calls Tryz.prog 116 #[pp S, vl k.1 k.2.1 k.2.2] w fun e w' => e = .returned (.bool (decide (z ≠ 0) && (fm k && decide (k.1 ≠ 0)))) ∧ Below w.heap.size w w' := by
  have CK := rcheck_any k.1 k.2.1 k.2.2
  rw [chk_of] at CK
  have c0 := h.s0
  have hS := h.lt.1
  have HB1 : Hid (Below w.heap.size w (w.alloc (vb k.1 k.2.1 k.2.2))) := b1 _ _
  have HB2 : Hid (Below w.heap.size w ((w.alloc (vb k.1 k.2.1 k.2.2)).alloc (vb k.1 k.2.1 k.2.2))) := b2 _ _ _
  clear h
  unfold pp vl vb at *
  by_cases hz : z = 0
  · subst hz
    have e : (decide ((0 : Nat) ≠ 0) && (fm k && decide (k.1 ≠ 0))) = false := rfl
    rw [e]
    clear e CK
    have c0' : w.cell? ⟨S, 0, none⟩ = some (.slice (some ⟨ka, 0, none⟩) 0 0) := c0
    go_enter Tryz.func116, Tryz.ntmps116
    go_wp2_with fail
    go_ret
    exact ⟨rfl, HB1.out⟩
  · have hz' : (0 : Int) < (z : Int) := by omega
    rw [decide_eq_true (show z ≠ 0 from hz), Bool.true_and]
    cases hf : fm k
    · rw [hf, if_neg (by simp)] at CK
      rw [Bool.false_and]
      go_enter Tryz.func116, Tryz.ntmps116
      go_wp2_with fail
      refine (CK _).mono ?_; rintro e w' ⟨rfl, rfl⟩
      go_wp2_with fail
      go_ret
      exact ⟨rfl, HB2.out⟩
    · rw [hf, if_pos rfl] at CK
      rw [Bool.true_and]
      clear hf
      go_enter Tryz.func116, Tryz.ntmps116
      go_wp2_with fail
      refine (CK _).mono ?_; rintro e w' ⟨rfl, rfl⟩
      go_wp2_with fail
      go_ret
      exact ⟨ret_bool (by rw [Bool.eq_iff_iff]; simp), HB2.out⟩
end Go.Proofs.YtkmopcanaalemabGreat
