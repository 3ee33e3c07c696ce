/- The walk of the reference's Format, its two loops. -/
import Derived.Test.YtimmoecjfkacpaaDoorRfmt
namespace Go.Proofs.YtimmoecjfkacpaaDoor
open Go.RowKit

theorem ret_s {a b : ByteArray} (h : a = b) : Ending.returned (.string a) = .returned (.string b) := by rw [h]

set_option maxRecDepth 20000 in
set_option maxHeartbeats 4000000 in
theorem rfmt_pos (n : Int) (w : World) (h0 : 0 < n) (h1 : n ≤ 9223372036854775807) : Calls Tryd.prog 36 #[.int .i64 n] w fun e w' => e = .returned (.string (itoaS n)) ∧ Below w.heap.size w w' := by
  obtain ⟨i0, hi, hz0, hz1, hz2⟩ := info_parts Tryd.info5
  have hn0 : (n == 0) = false := by simp; omega
  have HL : Hid _ := rdg_len n.natAbs (by omega)
  have H1 : Hid _ := h1
  clear h1
  go_enter Tryd.func36, Tryd.ntmps36
  go_wp2
  go_loopw [3, 4] (fun v i wr => ∃ (m : Int) (ds : List UInt8), i = .int .i64 m ∧ 0 ≤ m ∧ m ≤ 9223372036854775807 ∧ Hid (rdg n.natAbs = ds ++ rdg m.natAbs) ∧ wr.ownsRow w.heap.size 5 1 v ds.length (ds.map byteV) ∧ Below w.heap.size w wr) (fun _ i _ => (intOf i).natAbs)
  case atStart => exact ⟨n, [], rfl, by omega, H1.out, rfl, World.ownsRow_nil _ _ _ _, Below.refl _ _⟩
  case round =>
    obtain ⟨m, ds, rfl, hm0, hm1, HR, hown, hbw⟩ := hrel
    by_cases hz : m = 0
    · subst hz
      have HR2 : Hid (rdg n.natAbs = ds) := by
        have := HR.out
        have e : rdg (Int.natAbs 0) = [] := rfl
        rw [e, List.append_nil] at this
        exact this
      have HD : Hid (ds.reverse = Lib.decDigits n.toNat) := by
        show _ = _
        rw [← HR2.out]
        unfold rdg
        rw [if_neg (by omega), List.reverse_reverse]
        congr 1; omega
      have hl0 : ds.length ≠ 0 := by
        have h2 := congrArg List.length HD.out
        have h3 := digs_ne n.toNat
        simp only [List.length_reverse] at h2
        intro h4
        rw [h4] at h2
        have := List.eq_nil_of_length_eq_zero h2.symm
        rw [this] at h3; simp at h3
      have hlen : ds.length ≤ 19 := by have h3 := HL.out; rw [HR2.out] at h3; exact h3
      obtain ⟨g, cap, rfl, hB⟩ := bytes_of_row hown hbw hl0
      clear hown hbw HR
      go_wp2
      go_loopw [6] (fun i wr2 => ∃ k : Nat, i = .int .i64 k ∧ k ≤ ds.length / 2 ∧ Bytes w.heap.size g w wr2 ds k) (fun i _ => ds.length / 2 - (intOf i).toNat)
      case atStart => exact ⟨0, rfl, by omega, hB⟩
      case round =>
        clear hB
        obtain ⟨k, rfl, hk, hB⟩ := hrel
        by_cases hlt : k < ds.length / 2
        · have hlt' : (k : Int) < (ds.length : Int) / 2 := by omega
          have c1 := hB.cell k (by omega)
          have c2 := hB.cell (ds.length - 1 - k) (by omega)
          rw [sw_mid _ _ _ (by omega)] at c1 c2
          have f1 := hB.free k (by omega)
          have f2 := hB.free (ds.length - 1 - k) (by omega)
          unfold byteV at c1 c2
          have q1 : (0 : Int) ≤ (ds.length : Int) - 1 - (k : Int) := by omega
          have q2 : (ds.length : Int) - 1 - (k : Int) < (ds.length : Int) := by omega
          have q3 : ((ds.length : Int) - 1 - (k : Int)).toNat = ds.length - 1 - k := by omega
          have q4 : (k : Int) < (ds.length : Int) := by omega
          go_wp2
          go_region
          go_wp2
          go_roundw
          case rel => exact ⟨k + 1, by go_num, by omega, bytes_step hB hlt rfl⟩
          case measure => simp [intOf]; omega
        · have hlt' : ¬ (k : Int) < (ds.length : Int) / 2 := by omega
          have hcv := conv_bytes (cap := cap) hB hlt
          go_wp2
          go_ret
          exact ⟨ret_s (by rw [HD.out, itoaS, Lib.itoa, if_neg (by omega)]), hB.below⟩
    · have hz' : (m == 0) = false := by simpa using hz
      have hz'' : (m != 0) = true := by simpa using hz
      obtain ⟨u, rfl⟩ : ∃ u : Nat, m = u := ⟨m.toNat, by omega⟩
      obtain ⟨c, hc⟩ : ∃ c, UInt8.ofNat (48 + u % 10) = c := ⟨_, rfl⟩
      have hR2 := rdg_step u (by omega)
      have HR2 : Hid (rdg n.natAbs = (ds ++ [c]) ++ rdg (u / 10)) := by
        have := HR.out
        simp only [Int.natAbs_natCast] at this
        rw [hR2, hc] at this
        show _ = _
        rw [this]; simp
      have hlen : ds.length ≤ 19 := by have h2 := congrArg List.length HR.out; have h3 := HL.out; simp only [List.length_append] at h2; omega
      have HV : Hid (Value.int .u8 (48 + (u : Int) % 10) = byteV c) := by
        have := digV (u % 10) (by omega)
        rw [hc] at this
        show _ = _
        rw [← this]; rfl
      clear hR2 HR hc
      obtain ⟨a0, c0, rfl⟩ := slice_shape hown
      go_wp2_with (at_builtin; refine wpList_append_own _ rfl _ _ 75 rfl w.heap.size 5 i0 (.int .u8 0) 1 1 Tryd.underlying75 hi hz0 hz1 hz2 rfl (by decide) _ _ _ rfl (hown.alloc _) ⟨wr.heap.size, 0, none⟩ 1 1 [byteV c] rfl rfl ?c1 ?c2 ?c3 ?c4 ?c5 ?_)
      case c1 =>
        intro j x hj
        match j, hj with
        | 0, hj => simp at hj; subst hj; rw [← HV.out]; simp [Addr.add]
      case c2 => intro x hx; simp at hx; subst hx; rfl
      case c3 => unfold maxLen; omega
      case c4 => omega
      case c5 => have := hbw.size; simp; omega
      intro v' w1 hown' hgrow _
      have hbw1 : Below w.heap.size w w1 := (hbw.alloc hbw.size _).grown hgrow (by have := hbw.size; simp; omega) (fun k hk => (hown.lt k hk).1)
      clear hown hgrow hbw
      go_wp2
      go_roundw
      case rel => exact ⟨_, ds ++ [c], rfl, by omega, by omega, by (show _ = _; rw [HR2.out]; congr 1), by simpa using hown', hbw1⟩
      case measure => simp [intOf]; omega

set_option maxRecDepth 20000 in
set_option maxHeartbeats 4000000 in
theorem rfmt_neg (n : Int) (w : World) (h0 : n < 0) (h1 : -9223372036854775808 ≤ n) : Calls Tryd.prog 36 #[.int .i64 n] w fun e w' => e = .returned (.string (itoaS n)) ∧ Below w.heap.size w w' := by
  obtain ⟨i0, hi, hz0, hz1, hz2⟩ := info_parts Tryd.info5
  have hn0 : (n == 0) = false := by simp; omega
  have HL : Hid _ := rdg_len n.natAbs (by omega)
  have H1 : Hid _ := h1
  clear h1
  go_enter Tryd.func36, Tryd.ntmps36
  go_wp2
  go_loopw [3, 4] (fun v i wr => ∃ (m : Int) (ds : List UInt8), i = .int .i64 m ∧ m ≤ 0 ∧ -9223372036854775808 ≤ m ∧ Hid (rdg n.natAbs = ds ++ rdg m.natAbs) ∧ wr.ownsRow w.heap.size 5 1 v ds.length (ds.map byteV) ∧ Below w.heap.size w wr) (fun _ i _ => (intOf i).natAbs)
  case atStart => exact ⟨n, [], rfl, by omega, H1.out, rfl, World.ownsRow_nil _ _ _ _, Below.refl _ _⟩
  case round =>
    obtain ⟨m, ds, rfl, hm0, hm1, HR, hown, hbw⟩ := hrel
    by_cases hz : m = 0
    · subst hz
      have HR2 : Hid (rdg n.natAbs = ds) := by
        have := HR.out
        have e : rdg (Int.natAbs 0) = [] := rfl
        rw [e, List.append_nil] at this
        exact this
      have HD : Hid ((ds ++ [45]).reverse = Lib.itoa n) := by
        show _ = _
        rw [← HR2.out, Lib.itoa, if_pos h0]
        unfold rdg
        rw [if_neg (by omega), List.reverse_append, List.reverse_reverse]
        rfl
      have hlen : ds.length ≤ 19 := by have h3 := HL.out; rw [HR2.out] at h3; exact h3
      obtain ⟨a0, c0, rfl⟩ := slice_shape hown
      go_wp2_with (at_builtin; refine wpList_append_own _ rfl _ _ 75 rfl w.heap.size 5 i0 (.int .u8 0) 1 1 Tryd.underlying75 hi hz0 hz1 hz2 rfl (by decide) _ _ _ rfl (hown.alloc _) ⟨wr.heap.size, 0, none⟩ 1 1 [byteV 45] rfl rfl ?c1 ?c2 ?c3 ?c4 ?c5 ?_)
      case c1 =>
        intro j x hj
        match j, hj with
        | 0, hj => simp at hj; subst hj; show _ = some (Value.int .u8 45); simp [Addr.add]
      case c2 => intro x hx; simp at hx; subst hx; rfl
      case c3 => unfold maxLen; omega
      case c4 => omega
      case c5 => have := hbw.size; simp; omega
      intro v' w1 hown' hgrow _
      have hbw1 : Below w.heap.size w w1 := (hbw.alloc hbw.size _).grown hgrow (by have := hbw.size; simp; omega) (fun k hk => (hown.lt k hk).1)
      obtain ⟨dt, hdt⟩ : ∃ dt, ds ++ [45] = dt := ⟨_, rfl⟩
      have hown2 : w1.ownsRow w.heap.size 5 1 v' dt.length (dt.map byteV) := by rw [← hdt]; simpa using hown'
      have hlen2 : dt.length ≤ 20 := by rw [← hdt]; simp; omega
      have hl0 : dt.length ≠ 0 := by rw [← hdt]; simp
      rw [hdt] at HD
      clear hdt HR HR2 hlen hown' hgrow hown hbw
      obtain ⟨g, cap, rfl, hB⟩ := bytes_of_row hown2 hbw1 hl0
      clear hown2 hbw1
      go_wp2
      go_loopw [6] (fun i wr2 => ∃ k : Nat, i = .int .i64 k ∧ k ≤ dt.length / 2 ∧ Bytes w.heap.size g w wr2 dt k) (fun i _ => dt.length / 2 - (intOf i).toNat)
      case atStart => exact ⟨0, rfl, by omega, hB⟩
      case round =>
        clear hB
        obtain ⟨k, rfl, hk, hB⟩ := hrel
        by_cases hlt : k < dt.length / 2
        · have hlt' : (k : Int) < (dt.length : Int) / 2 := by omega
          have c1 := hB.cell k (by omega)
          have c2 := hB.cell (dt.length - 1 - k) (by omega)
          rw [sw_mid _ _ _ (by omega)] at c1 c2
          have f1 := hB.free k (by omega)
          have f2 := hB.free (dt.length - 1 - k) (by omega)
          unfold byteV at c1 c2
          have q1 : (0 : Int) ≤ (dt.length : Int) - 1 - (k : Int) := by omega
          have q2 : (dt.length : Int) - 1 - (k : Int) < (dt.length : Int) := by omega
          have q3 : ((dt.length : Int) - 1 - (k : Int)).toNat = dt.length - 1 - k := by omega
          have q4 : (k : Int) < (dt.length : Int) := by omega
          go_wp2
          go_region
          go_wp2
          go_roundw
          case rel => exact ⟨k + 1, by go_num, by omega, bytes_step hB hlt rfl⟩
          case measure => simp [intOf]; omega
        · have hlt' : ¬ (k : Int) < (dt.length : Int) / 2 := by omega
          have hcv := conv_bytes (cap := cap) hB hlt
          go_wp2
          go_ret
          exact ⟨ret_s (by rw [HD.out]; rfl), hB.below⟩
    · have hz' : (m == 0) = false := by simpa using hz
      have hz'' : (m != 0) = true := by simpa using hz
      obtain ⟨u, rfl⟩ : ∃ u : Nat, m = -(u : Int) := ⟨m.natAbs, by omega⟩
      obtain ⟨c, hc⟩ : ∃ c, UInt8.ofNat (48 + u % 10) = c := ⟨_, rfl⟩
      have hR2 := rdg_step u (by omega)
      have HR2 : Hid (rdg n.natAbs = (ds ++ [c]) ++ rdg (u / 10)) := by
        have := HR.out
        simp only [Int.natAbs_neg, Int.natAbs_natCast] at this
        rw [hR2, hc] at this
        show _ = _
        rw [this]; simp
      have hlen : ds.length ≤ 19 := by have h2 := congrArg List.length HR.out; have h3 := HL.out; simp only [List.length_append] at h2; omega
      have HV : Hid (Value.int .u8 (48 + (u : Int) % 10) = byteV c) := by
        have := digV (u % 10) (by omega)
        rw [hc] at this
        show _ = _
        rw [← this]; rfl
      clear hR2 HR hc
      obtain ⟨a0, c0, rfl⟩ := slice_shape hown
      have HQ : Hid ((-((u : Int) / 10)).natAbs = u / 10) := by show _ = _; omega
      have hpos : 0 < (u : Int) := by omega
      by_cases hu : (u : Int) % 10 = 0
      · have HV0 : Hid (Value.int .u8 48 = byteV c) := by show _ = _; rw [← HV.out, hu]; rfl
        go_wp2_with (at_builtin; refine wpList_append_own _ rfl _ _ 75 rfl w.heap.size 5 i0 (.int .u8 0) 1 1 Tryd.underlying75 hi hz0 hz1 hz2 rfl (by decide) _ _ _ rfl (hown.alloc _) ⟨wr.heap.size, 0, none⟩ 1 1 [byteV c] rfl rfl ?c1 ?c2 ?c3 ?c4 ?c5 ?_)
        case c1 =>
          intro j x hj
          match j, hj with
          | 0, hj => simp at hj; subst hj; rw [← HV0.out]; simp [Addr.add]
        case c2 => intro x hx; simp at hx; subst hx; rfl
        case c3 => unfold maxLen; omega
        case c4 => omega
        case c5 => have := hbw.size; simp; omega
        intro v' w1 hown' hgrow _
        have hbw1 : Below w.heap.size w w1 := (hbw.alloc hbw.size _).grown hgrow (by have := hbw.size; simp; omega) (fun k hk => (hown.lt k hk).1)
        clear hown hgrow hbw
        go_wp2
        go_roundw
        case rel => exact ⟨_, ds ++ [c], rfl, by omega, by omega, by (show _ = _; rw [HR2.out, HQ.out]), by simpa using hown', hbw1⟩
        case measure => simp [intOf]; omega
      · have hu' : 0 < (u : Int) % 10 := by omega
        go_wp2_with (at_builtin; refine wpList_append_own _ rfl _ _ 75 rfl w.heap.size 5 i0 (.int .u8 0) 1 1 Tryd.underlying75 hi hz0 hz1 hz2 rfl (by decide) _ _ _ rfl (hown.alloc _) ⟨wr.heap.size, 0, none⟩ 1 1 [byteV c] rfl rfl ?c1 ?c2 ?c3 ?c4 ?c5 ?_)
        case c1 =>
          intro j x hj
          match j, hj with
          | 0, hj => simp at hj; subst hj; rw [← HV.out]; simp [Addr.add]
        case c2 => intro x hx; simp at hx; subst hx; rfl
        case c3 => unfold maxLen; omega
        case c4 => omega
        case c5 => have := hbw.size; simp; omega
        intro v' w1 hown' hgrow _
        have hbw1 : Below w.heap.size w w1 := (hbw.alloc hbw.size _).grown hgrow (by have := hbw.size; simp; omega) (fun k hk => (hown.lt k hk).1)
        clear hown hgrow hbw
        go_wp2
        go_roundw
        case rel => exact ⟨_, ds ++ [c], rfl, by omega, by omega, by (show _ = _; rw [HR2.out, HQ.out]), by simpa using hown', hbw1⟩
        case measure => simp [intOf]; omega

set_option maxHeartbeats 400000 in
theorem rfmt_zero (w : World) : Calls Tryd.prog 36 #[.int .i64 0] w fun e w' => e = .returned (.string (itoaS 0)) ∧ Below w.heap.size w w' := by
  have h : itoaS 0 = { data := #[48] } := by simp [itoaS, Lib.itoa, Lib.decDigits]
  rw [h]
  clear h
  go_enter Tryd.func36, Tryd.ntmps36
  go_wp2
  go_ret
  exact ⟨rfl, Below.refl _ _⟩

theorem rfmt_any (n : Int) (w : World) (h0 : -9223372036854775808 ≤ n) (h1 : n ≤ 9223372036854775807) : Calls Tryd.prog 36 #[.int .i64 n] w fun e w' => e = .returned (.string (itoaS n)) ∧ Below w.heap.size w w' := by
  rcases Int.lt_trichotomy n 0 with h | h | h
  · exact rfmt_neg n w h h0
  · subst h; exact rfmt_zero w
  · exact rfmt_pos n w h h1

theorem itoaS_size (n : Int) (h0 : -9223372036854775808 ≤ n) (h1 : n ≤ 9223372036854775807) : (itoaS n).size ≤ 20 := by
  have e : (itoaS n).size = (Lib.itoa n).length := by simp [itoaS, ByteArray.size]
  rw [e]
  unfold Lib.itoa
  split
  · have := digs_len10 18 n.natAbs (by omega)
    simp only [List.length_cons]; omega
  · have := digs_len10 18 n.toNat (by omega)
    omega

end Go.Proofs.YtimmoecjfkacpaaDoor
