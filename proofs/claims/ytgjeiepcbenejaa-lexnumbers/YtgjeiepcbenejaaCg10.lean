/- The walk of the reference's Format, its two loops. -/
import Derived.Test.YtgjeiepcbenejaaCg07
import Derived.Test.YtgjeiepcbenejaaCg09
namespace Go.Proofs.Ytgjeiepcbenejaa.W
open Go.RowKit

theorem ret_s {a b : ByteArray} (h : a = b) : Ending.returned (.string a) = .returned (.string b) := by rw [h]

set_option maxHeartbeats 4000000 in
theorem rfmt_pos (n : Int) (w : World) (h0 : 0 < n) (h1 : n ≤ 9223372036854775807) : Calls Try.prog 19 #[.int .i64 n] w fun e w' => e = .returned (.string (itoaS n)) ∧ Below w.heap.size w w' := by
  obtain ⟨i0, hi, hz0, hz1, hz2⟩ := info_parts Try.info5
  have hn0 : (n == 0) = false := by simp; omega
  have HL : Hid _ := rdg_len n.natAbs (by omega)
  have H1 : Hid _ := h1
  clear h1
  go_enter Try.func19, Try.ntmps19
  go_wp2
  go_loopw [3, 4] (fun v i wr => ∃ (m : Int) (ds : List UInt8), i = .int .i64 m ∧ 0 ≤ m ∧ m ≤ 9223372036854775807 ∧ Hid (rdg n.natAbs = ds ++ rdg m.natAbs) ∧ wr.ownsRow w.heap.size 5 1 v ds.length (ds.map byteV) ∧ Below w.heap.size w wr) (fun _ i _ => (intOf i).natAbs)
  case atStart => exact ⟨n, [], rfl, by omega, H1.out, rfl, World.ownsRow_nil _ _ _ _, Below.refl _ _⟩
  case round =>
    obtain ⟨m, ds, rfl, hm0, hm1, HR, hown, hbw⟩ := hrel
    by_cases hz : m = 0
    · subst hz
      have HR2 : Hid (rdg n.natAbs = ds) := by
        have := HR.out
        have e : rdg (Int.natAbs 0) = [] := rfl
        rw [e, List.append_nil] at this
        exact this
      have HD : Hid (ds.reverse = Lib.decDigits n.toNat) := by
        show _ = _
        rw [← HR2.out]
        unfold rdg
        rw [if_neg (by omega), List.reverse_reverse]
        congr 1; omega
      have hl0 : ds.length ≠ 0 := by
        have h2 := congrArg List.length HD.out
        have h3 := digs_ne n.toNat
        simp only [List.length_reverse] at h2
        intro h4
        rw [h4] at h2
        have := List.eq_nil_of_length_eq_zero h2.symm
        rw [this] at h3; simp at h3
      have hlen : ds.length ≤ 19 := by have h3 := HL.out; rw [HR2.out] at h3; exact h3
      obtain ⟨g, cap, rfl, hB⟩ := bytes_of_row hown hbw hl0
      clear hown hbw HR
      go_wp2
      go_loopw [6] (fun i wr2 => ∃ k : Nat, i = .int .i64 k ∧ k ≤ ds.length / 2 ∧ Bytes w.heap.size g w wr2 ds k) (fun i _ => ds.length / 2 - (intOf i).toNat)
      case atStart => exact ⟨0, rfl, by omega, hB⟩
      case round =>
        clear hB
        obtain ⟨k, rfl, hk, hB⟩ := hrel
        by_cases hlt : k < ds.length / 2
        · have hlt' : (k : Int) < (ds.length : Int) / 2 := by omega
          have c1 := hB.cell k (by omega)
          have c2 := hB.cell (ds.length - 1 - k) (by omega)
          rw [sw_mid _ _ _ (by omega)] at c1 c2
          have f1 := hB.free k (by omega)
          have f2 := hB.free (ds.length - 1 - k) (by omega)
          unfold byteV at c1 c2
          have q1 : (0 : Int) ≤ (ds.length : Int) - 1 - (k : Int) := by omega
          have q2 : (ds.length : Int) - 1 - (k : Int) < (ds.length : Int) := by omega
          have q3 : ((ds.length : Int) - 1 - (k : Int)).toNat = ds.length - 1 - k := by omega
          have q4 : (k : Int) < (ds.length : Int) := by omega
          go_wp2
          go_region
          go_wp2
          go_roundw
          case rel => exact ⟨k + 1, by go_num, by omega, bytes_step hB hlt rfl⟩
          case measure => simp [intOf]; omega
        · have hlt' : ¬ (k : Int) < (ds.length : Int) / 2 := by omega
          have hcv := conv_bytes (cap := cap) hB hlt
          go_wp2
          go_ret
          exact ⟨ret_s (by rw [HD.out, itoaS, Lib.itoa, if_neg (by omega)]), hB.below⟩
    · have hz' : (m == 0) = false := by simpa using hz
      have hz'' : (m != 0) = true := by simpa using hz
      obtain ⟨u, rfl⟩ : ∃ u : Nat, m = u := ⟨m.toNat, by omega⟩
      obtain ⟨c, hc⟩ : ∃ c, UInt8.ofNat (48 + u % 10) = c := ⟨_, rfl⟩
      have hR2 := rdg_step u (by omega)
      have HR2 : Hid (rdg n.natAbs = (ds ++ [c]) ++ rdg (u / 10)) := by
        have := HR.out
        simp only [Int.natAbs_natCast] at this
        rw [hR2, hc] at this
        show _ = _
        rw [this]; simp
      have hlen : ds.length ≤ 19 := by have h2 := congrArg List.length HR.out; have h3 := HL.out; simp only [List.length_append] at h2; omega
      have HV : Hid (Value.int .u8 (48 + (u : Int) % 10) = byteV c) := by
        have := digV (u % 10) (by omega)
        rw [hc] at this
        show _ = _
        rw [← this]; rfl
      clear hR2 HR hc
      obtain ⟨a0, c0, rfl⟩ := slice_shape hown
      go_wp2_with (at_builtin; refine wpList_append_own _ rfl _ _ 55 rfl w.heap.size 5 i0 (.int .u8 0) 1 1 Try.underlying55 hi hz0 hz1 hz2 rfl (by decide) _ _ _ rfl (hown.alloc _) ⟨wr.heap.size, 0, none⟩ 1 1 [byteV c] rfl rfl ?c1 ?c2 ?c3 ?c4 ?c5 ?_)
      case c1 =>
        intro j x hj
        match j, hj with
        | 0, hj => simp at hj; subst hj; rw [← HV.out]; simp [Addr.add]
      case c2 => intro x hx; simp at hx; subst hx; rfl
      case c3 => unfold maxLen; omega
      case c4 => omega
      case c5 => have := hbw.size; simp; omega
      intro v' w1 hown' hgrow _
      have hbw1 : Below w.heap.size w w1 := (hbw.alloc hbw.size _).grown hgrow (by have := hbw.size; simp; omega) (fun k hk => (hown.lt k hk).1)
      clear hown hgrow hbw
      go_wp2
      go_roundw
      case rel => exact ⟨_, ds ++ [c], rfl, by omega, by omega, by (show _ = _; rw [HR2.out]; congr 1), by simpa using hown', hbw1⟩
      case measure => simp [intOf]; omega

set_option maxHeartbeats 4000000 in
theorem rfmt_neg (n : Int) (w : World) (h0 : n < 0) (h1 : -9223372036854775808 ≤ n) : Calls Try.prog 19 #[.int .i64 n] w fun e w' => e = .returned (.string (itoaS n)) ∧ Below w.heap.size w w' := by
  obtain ⟨i0, hi, hz0, hz1, hz2⟩ := info_parts Try.info5
  have hn0 : (n == 0) = false := by simp; omega
  have HL : Hid _ := rdg_len n.natAbs (by omega)
  have H1 : Hid _ := h1
  clear h1
  go_enter Try.func19, Try.ntmps19
  go_wp2
  go_loopw [3, 4] (fun v i wr => ∃ (m : Int) (ds : List UInt8), i = .int .i64 m ∧ m ≤ 0 ∧ -9223372036854775808 ≤ m ∧ Hid (rdg n.natAbs = ds ++ rdg m.natAbs) ∧ wr.ownsRow w.heap.size 5 1 v ds.length (ds.map byteV) ∧ Below w.heap.size w wr) (fun _ i _ => (intOf i).natAbs)
  case atStart => exact ⟨n, [], rfl, by omega, H1.out, rfl, World.ownsRow_nil _ _ _ _, Below.refl _ _⟩
  case round =>
    obtain ⟨m, ds, rfl, hm0, hm1, HR, hown, hbw⟩ := hrel
    by_cases hz : m = 0
    · subst hz
      have HR2 : Hid (rdg n.natAbs = ds) := by
        have := HR.out
        have e : rdg (Int.natAbs 0) = [] := rfl
        rw [e, List.append_nil] at this
        exact this
      have HD : Hid ((ds ++ [45]).reverse = Lib.itoa n) := by
        show _ = _
        rw [← HR2.out, Lib.itoa, if_pos h0]
        unfold rdg
        rw [if_neg (by omega), List.reverse_append, List.reverse_reverse]
        rfl
      have hlen : ds.length ≤ 19 := by have h3 := HL.out; rw [HR2.out] at h3; exact h3
      obtain ⟨a0, c0, rfl⟩ := slice_shape hown
      go_wp2_with (at_builtin; refine wpList_append_own _ rfl _ _ 55 rfl w.heap.size 5 i0 (.int .u8 0) 1 1 Try.underlying55 hi hz0 hz1 hz2 rfl (by decide) _ _ _ rfl (hown.alloc _) ⟨wr.heap.size, 0, none⟩ 1 1 [byteV 45] rfl rfl ?c1 ?c2 ?c3 ?c4 ?c5 ?_)
      case c1 =>
        intro j x hj
        match j, hj with
        | 0, hj => simp at hj; subst hj; show _ = some (Value.int .u8 45); simp [Addr.add]
      case c2 => intro x hx; simp at hx; subst hx; rfl
      case c3 => unfold maxLen; omega
      case c4 => omega
      case c5 => have := hbw.size; simp; omega
      intro v' w1 hown' hgrow _
      have hbw1 : Below w.heap.size w w1 := (hbw.alloc hbw.size _).grown hgrow (by have := hbw.size; simp; omega) (fun k hk => (hown.lt k hk).1)
      obtain ⟨dt, hdt⟩ : ∃ dt, ds ++ [45] = dt := ⟨_, rfl⟩
      have hown2 : w1.ownsRow w.heap.size 5 1 v' dt.length (dt.map byteV) := by rw [← hdt]; simpa using hown'
      have hlen2 : dt.length ≤ 20 := by rw [← hdt]; simp; omega
      have hl0 : dt.length ≠ 0 := by rw [← hdt]; simp
      rw [hdt] at HD
      clear hdt HR HR2 hlen hown' hgrow hown hbw
      obtain ⟨g, cap, rfl, hB⟩ := bytes_of_row hown2 hbw1 hl0
      clear hown2 hbw1
      go_wp2
      go_loopw [6] (fun i wr2 => ∃ k : Nat, i = .int .i64 k ∧ k ≤ dt.length / 2 ∧ Bytes w.heap.size g w wr2 dt k) (fun i _ => dt.length / 2 - (intOf i).toNat)
      case atStart => exact ⟨0, rfl, by omega, hB⟩
      case round =>
        clear hB
        obtain ⟨k, rfl, hk, hB⟩ := hrel
        by_cases hlt : k < dt.length / 2
        · have hlt' : (k : Int) < (dt.length : Int) / 2 := by omega
          have c1 := hB.cell k (by omega)
          have c2 := hB.cell (dt.length - 1 - k) (by omega)
          rw [sw_mid _ _ _ (by omega)] at c1 c2
          have f1 := hB.free k (by omega)
          have f2 := hB.free (dt.length - 1 - k) (by omega)
          unfold byteV at c1 c2
          have q1 : (0 : Int) ≤ (dt.length : Int) - 1 - (k : Int) := by omega
          have q2 : (dt.length : Int) - 1 - (k : Int) < (dt.length : Int) := by omega
          have q3 : ((dt.length : Int) - 1 - (k : Int)).toNat = dt.length - 1 - k := by omega
          have q4 : (k : Int) < (dt.length : Int) := by omega
          go_wp2
          go_region
          go_wp2
          go_roundw
          case rel => exact ⟨k + 1, by go_num, by omega, bytes_step hB hlt rfl⟩
          case measure => simp [intOf]; omega
        · have hlt' : ¬ (k : Int) < (dt.length : Int) / 2 := by omega
          have hcv := conv_bytes (cap := cap) hB hlt
          go_wp2
          go_ret
          exact ⟨ret_s (by rw [HD.out]; rfl), hB.below⟩
    · have hz' : (m == 0) = false := by simpa using hz
      have hz'' : (m != 0) = true := by simpa using hz
      obtain ⟨u, rfl⟩ : ∃ u : Nat, m = -(u : Int) := ⟨m.natAbs, by omega⟩
      obtain ⟨c, hc⟩ : ∃ c, UInt8.ofNat (48 + u % 10) = c := ⟨_, rfl⟩
      have hR2 := rdg_step u (by omega)
      have HR2 : Hid (rdg n.natAbs = (ds ++ [c]) ++ rdg (u / 10)) := by
        have := HR.out
        simp only [Int.natAbs_neg, Int.natAbs_natCast] at this
        rw [hR2, hc] at this
        show _ = _
        rw [this]; simp
      have hlen : ds.length ≤ 19 := by have h2 := congrArg List.length HR.out; have h3 := HL.out; simp only [List.length_append] at h2; omega
      have HV : Hid (Value.int .u8 (48 + (u : Int) % 10) = byteV c) := by
        have := digV (u % 10) (by omega)
        rw [hc] at this
        show _ = _
        rw [← this]; rfl
      clear hR2 HR hc
      obtain ⟨a0, c0, rfl⟩ := slice_shape hown
      have HQ : Hid ((-((u : Int) / 10)).natAbs = u / 10) := by show _ = _; omega
      have hpos : 0 < (u : Int) := by omega
      by_cases hu : (u : Int) % 10 = 0
      · have HV0 : Hid (Value.int .u8 48 = byteV c) := by show _ = _; rw [← HV.out, hu]; rfl
        go_wp2_with (at_builtin; refine wpList_append_own _ rfl _ _ 55 rfl w.heap.size 5 i0 (.int .u8 0) 1 1 Try.underlying55 hi hz0 hz1 hz2 rfl (by decide) _ _ _ rfl (hown.alloc _) ⟨wr.heap.size, 0, none⟩ 1 1 [byteV c] rfl rfl ?c1 ?c2 ?c3 ?c4 ?c5 ?_)
        case c1 =>
          intro j x hj
          match j, hj with
          | 0, hj => simp at hj; subst hj; rw [← HV0.out]; simp [Addr.add]
        case c2 => intro x hx; simp at hx; subst hx; rfl
        case c3 => unfold maxLen; omega
        case c4 => omega
        case c5 => have := hbw.size; simp; omega
        intro v' w1 hown' hgrow _
        have hbw1 : Below w.heap.size w w1 := (hbw.alloc hbw.size _).grown hgrow (by have := hbw.size; simp; omega) (fun k hk => (hown.lt k hk).1)
        clear hown hgrow hbw
        go_wp2
        go_roundw
        case rel => exact ⟨_, ds ++ [c], rfl, by omega, by omega, by (show _ = _; rw [HR2.out, HQ.out]), by simpa using hown', hbw1⟩
        case measure => simp [intOf]; omega
      · have hu' : 0 < (u : Int) % 10 := by omega
        go_wp2_with (at_builtin; refine wpList_append_own _ rfl _ _ 55 rfl w.heap.size 5 i0 (.int .u8 0) 1 1 Try.underlying55 hi hz0 hz1 hz2 rfl (by decide) _ _ _ rfl (hown.alloc _) ⟨wr.heap.size, 0, none⟩ 1 1 [byteV c] rfl rfl ?c1 ?c2 ?c3 ?c4 ?c5 ?_)
        case c1 =>
          intro j x hj
          match j, hj with
          | 0, hj => simp at hj; subst hj; rw [← HV.out]; simp [Addr.add]
        case c2 => intro x hx; simp at hx; subst hx; rfl
        case c3 => unfold maxLen; omega
        case c4 => omega
        case c5 => have := hbw.size; simp; omega
        intro v' w1 hown' hgrow _
        have hbw1 : Below w.heap.size w w1 := (hbw.alloc hbw.size _).grown hgrow (by have := hbw.size; simp; omega) (fun k hk => (hown.lt k hk).1)
        clear hown hgrow hbw
        go_wp2
        go_roundw
        case rel => exact ⟨_, ds ++ [c], rfl, by omega, by omega, by (show _ = _; rw [HR2.out, HQ.out]), by simpa using hown', hbw1⟩
        case measure => simp [intOf]; omega

set_option maxHeartbeats 400000 in
theorem rfmt_zero (w : World) : Calls Try.prog 19 #[.int .i64 0] w fun e w' => e = .returned (.string (itoaS 0)) ∧ Below w.heap.size w w' := by
  have h : itoaS 0 = { data := #[48] } := by simp [itoaS, Lib.itoa, Lib.decDigits]
  rw [h]
  clear h
  go_enter Try.func19, Try.ntmps19
  go_wp2
  go_ret
  exact ⟨rfl, Below.refl _ _⟩

theorem rfmt_any (n : Int) (w : World) (h0 : -9223372036854775808 ≤ n) (h1 : n ≤ 9223372036854775807) : Calls Try.prog 19 #[.int .i64 n] w fun e w' => e = .returned (.string (itoaS n)) ∧ Below w.heap.size w w' := by
  rcases Int.lt_trichotomy n 0 with h | h | h
  · exact rfmt_neg n w h h0
  · subst h; exact rfmt_zero w
  · exact rfmt_pos n w h h1

end Go.Proofs.Ytgjeiepcbenejaa.W

/- A number's digits with a sign ahead, scanned (no program in it); then the walk of the law LexNumbers. -/
namespace Go.Proofs.Ytgjeiepcbenejaa
open Go.RowKit

/-- Bytes below 128 that all fit, and one behind them that doesn't. -/
theorem spn_run (f : Nat → Bool) (c : UInt8) (u : List UInt8) (hc : c.toNat < 128) (hcf : f c.toNat = false) : ∀ d : List UInt8, (∀ x ∈ d, x.toNat < 128 ∧ f x.toNat = true) → spn f (d ++ c :: u) = d.length
  | [], _ => by
    have := asc c u hc
    rw [List.nil_append, spn_no f _ (by simp) (by rw [this.1]; exact hcf)]; rfl
  | a :: d, h => by
    obtain ⟨h1, h2⟩ := h a (by simp)
    have ha := asc a (d ++ c :: u) h1
    rw [List.cons_append, spn_yes f _ (by simp) (by rw [ha.1]; exact h2), ha.2]
    simp only [List.drop_succ_cons, List.drop_zero, List.length_cons]
    rw [spn_run f c u hc hcf d (fun x hx => h x (by simp [hx]))]
    omega

theorem dec_bounds (c : UInt8) (h : 48 ≤ (c.toNat : Int) ∧ (c.toNat : Int) ≤ 57) : c.toNat < 128 ∧ letB c.toNat = false ∧ digB c.toNat = true := by
  refine ⟨by omega, ?_, by simp [digB]; omega⟩
  simp [letB]; omega

/-- What stands next where decimal digits stand, and a blank behind them. -/
theorem stp_digits (d u : List UInt8) (c : UInt8) (hne : d ≠ []) (ha : W.allDec d = true) (hc : c.toNat = 32 ∨ c.toNat = 10) (hv : W.dv d ≤ 9223372036854775807) :
    stp (d ++ c :: u) = .tok 3 d (W.dv d) d.length := by
  obtain ⟨a, d', rfl⟩ : ∃ a d', d = a :: d' := by cases d with | nil => exact absurd rfl hne | cons a d' => exact ⟨a, d', rfl⟩
  have hall : ∀ x ∈ a :: d', 48 ≤ (x.toNat : Int) ∧ (x.toNat : Int) ≤ 57 := fun x hx => by
    have := List.all_eq_true.1 ha x hx
    simpa using this
  have h0 := hall a (by simp)
  obtain ⟨b1, b2, b3⟩ := dec_bounds a h0
  have hr := (asc a (d' ++ c :: u) b1).1
  have hsp : spn inNm ((a :: d') ++ c :: u) = (a :: d').length := spn_run inNm c u (by omega) (by rcases hc with h | h <;> rw [h] <;> decide) _ (fun x hx => by
    obtain ⟨g1, g2, g3⟩ := dec_bounds x (hall x hx)
    exact ⟨g1, by unfold inNm; rw [g3]; simp⟩)
  have hnum := W.num_dec (a :: d') 9223372036854775807 ha rfl
  rw [List.cons_append] at hsp ⊢
  rw [stp_number _ a.toNat hr (by omega) (by
      simp only [Lib.hasPrefix, List.isPrefixOf]
      rw [Bool.and_eq_false_iff]; left
      simp
      intro e; rw [← e] at h0; exact absurd h0 (by decide)) b2 b3]
  rw [hsp]
  have ht : (a :: (d' ++ c :: u)).take (a :: d').length = a :: d' := by simp
  rw [ht]
  have e1 : W.parE (a :: d') = 0 := by unfold W.parE; rw [hnum.2, if_neg (by omega)]
  have e2 : W.parN (a :: d') = W.dv (a :: d') := by unfold W.parN; rw [hnum.1, if_neg (by omega)]; unfold wrap64; omega
  rw [e1, e2, if_neg (by simp)]

theorem stp_space (c : UInt8) (u : List UInt8) (h : c.toNat = 32 ∨ c.toNat = 9 ∨ c.toNat = 10 ∨ c.toNat = 13) : stp (c :: u) = .skip 1 :=
  stp_blank _ c.toNat (asc c u (by omega)).1 h

theorem stp_minus (c : UInt8) (u : List UInt8) (h : 48 ≤ (c.toNat : Int) ∧ (c.toNat : Int) ≤ 57) : stp (45 :: c :: u) = .tok 5 [45] 0 1 := by
  have hne : ¬ c = 45 := fun e => by rw [e] at h; exact absurd h (by decide)
  have hne2 : ¬ c = 61 := fun e => by rw [e] at h; exact absurd h (by decide)
  have hs : sgz (45 :: c :: u) = 1 := by
    unfold sgz
    rw [if_neg (by simp [sgn2]), if_pos (by simp [sgn1])]
  rw [stp_sign _ 45 (asc 45 (c :: u) (by decide)).1 (by omega) (by simp [Lib.hasPrefix, List.isPrefixOf]; exact fun e => hne e.symm) (by decide) (by decide) (by omega), hs]
  rfl

theorem scn_number (n : Nat) (hn : n ≤ 9223372036854775807) : scT ([32, 45] ++ Lib.decDigits n ++ [10]) = ([⟨5, [45], 0, 1⟩, ⟨3, Lib.decDigits n, n, 2⟩, ⟨6, [], 0, (Lib.decDigits n).length + 3⟩], 0, 0) := by
  have hall := W.digs_all n
  have hne := W.digs_ne n
  have hval := W.digs_val n
  have hlen := W.digs_len10 18 n (by omega)
  obtain ⟨d, hd⟩ : ∃ d, Lib.decDigits n = d := ⟨_, rfl⟩
  rw [hd] at hall hne hval hlen ⊢
  obtain ⟨a, d', rfl⟩ : ∃ a d', d = a :: d' := by cases d with | nil => simp at hne | cons a d' => exact ⟨a, d', rfl⟩
  have h0 : 48 ≤ (a.toNat : Int) ∧ (a.toNat : Int) ≤ 57 := by
    have := List.all_eq_true.1 hall a (by simp)
    simpa using this
  have s1 : stp (32 :: 45 :: ((a :: d') ++ [10])) = .skip 1 := by exact stp_space 32 _ (.inl rfl)
  have s2 : stp (45 :: ((a :: d') ++ [10])) = .tok 5 [45] 0 1 := by rw [List.cons_append]; exact stp_minus a (d' ++ [10]) h0
  have s3 : stp ((a :: d') ++ [10]) = .tok 3 (a :: d') n (a :: d').length := by
    have := stp_digits (a :: d') [] 10 (by simp) hall (.inr rfl) (by omega)
    rw [hval] at this; exact this
  have s4 : stp [10] = .skip 1 := by exact stp_space 10 [] (.inr (.inr (.inl rfl)))
  have q1 := scn_skip (l := 32 :: 45 :: ((a :: d') ++ [10])) (by simp) s1 0 []
  have q2 := scn_tok (l := 45 :: ((a :: d') ++ [10])) (by simp) s2 1 []
  have q3 := scn_tok (l := (a :: d') ++ [10]) (by simp) s3 2 [⟨5, [45], 0, 1⟩]
  have q4 := scn_skip (l := [10]) (by simp) s4 (2 + (a :: d').length) [⟨5, [45], 0, 1⟩, ⟨3, a :: d', n, 2⟩]
  have q5 := scn_nil (2 + (a :: d').length + 1) [⟨5, [45], 0, 1⟩, ⟨3, a :: d', n, 2⟩]
  have t1 : (32 :: 45 :: ((a :: d') ++ [10]) : List UInt8).drop 1 = 45 :: ((a :: d') ++ [10]) := rfl
  have t2 : (45 :: ((a :: d') ++ [10]) : List UInt8).drop 1 = (a :: d') ++ [10] := rfl
  have t3 : ((a :: d') ++ [10] : List UInt8).drop (a :: d').length = [10] := List.drop_left
  have t4 : ([10] : List UInt8).drop 1 = [] := rfl
  rw [t1] at q1
  rw [t2] at q2
  rw [t3] at q3
  rw [t4] at q4
  have q : scn (32 :: 45 :: ((a :: d') ++ [10])) 0 [] = .ok [⟨5, [45], 0, 1⟩, ⟨3, a :: d', n, 2⟩, ⟨6, [], 0, (a :: d').length + 3⟩] := by
    rw [q1]
    refine q2.trans ?_
    refine q3.trans ?_
    refine q4.trans ?_
    rw [q5]
    have e6 : 2 + (a :: d').length + 1 = (a :: d').length + 3 := by omega
    rw [e6]; rfl
  have hl : ¬ 20000 < (([32, 45] : List UInt8) ++ (a :: d') ++ [10]).length := by
    rw [List.length_append, List.length_append]
    simp only [List.length_cons, List.length_nil] at *
    omega
  unfold scT
  rw [if_neg hl]
  show (match scn (32 :: 45 :: ((a :: d') ++ [10])) 0 [] with | .ok ts => (ts, 0, 0) | .bad c p => ([], c, (p : Int))) = _
  rw [q]

set_option maxRecDepth 20000 in
set_option maxHeartbeats 2000000 in
theorem numbers_pos (n : Nat) (m : Int) (hn : n ≤ 9223372036854775807) (hm : (0 ≤ m ∧ m = n) ∨ (m < 0 ∧ m + 1 = -n)) (w : World) : Calls Try.prog 8 #[.int .i64 m] w fun e w' => e = .returned (.bool true) ∧ Below w.heap.size w w' := by
  have hit : W.itoaS n = ⟨(Lib.decDigits n).toArray⟩ := by unfold W.itoaS Lib.itoa; rw [if_neg (by omega)]; rfl
  have hlen := W.digs_len10 18 n (by omega)
  have CF := fun w => W.rfmt_any n w (by omega) (by omega)
  rw [hit] at CF
  obtain ⟨d, hd⟩ : ∃ d, Lib.decDigits n = d := ⟨_, rfl⟩
  have hsc := scn_number n hn
  rw [hd] at CF hlen hsc
  obtain ⟨x, hx⟩ : ∃ x : ByteArray, (⟨d.toArray⟩ : ByteArray) = x := ⟨_, rfl⟩
  have hxl : x.data.toList = d := by rw [← hx]
  have hxs : x.size = d.length := by rw [← hx]; rfl
  rw [hx] at CF
  have CS := fun w => Scan_any ((⟨#[32, 45]⟩ ++ x) ++ ⟨#[10]⟩) w (by rw [ByteArray.size_append, ByteArray.size_append, hxs]; have e1 : (⟨#[32, 45]⟩ : ByteArray).size = 2 := rfl; have e2 : (⟨#[10]⟩ : ByteArray).size = 1 := rfl; omega)
  have el : ((⟨#[32, 45]⟩ ++ x) ++ ⟨#[10]⟩ : ByteArray).data.toList = [32, 45] ++ d ++ [10] := by rw [app_data, app_data, hxl]
  rw [el, hsc] at CS
  simp only at CS
  have hq0 := fun W => eql36 5 0 1 5 0 1 ⟨#[45]⟩ ⟨#[45]⟩ W
  have hq1 := fun W => eql36 3 n 2 3 n 2 x x W
  have hq2 := fun W => eql36 6 0 ((d.length + 3 : Nat) : Int) 6 0 ((d.length : Int) + 3) ⟨#[]⟩ ⟨#[]⟩ W
  have g36 := guard36
  have HX : Hid ((⟨d.toArray⟩ : ByteArray) = x) := hx
  clear hd hsc el hit hxl hx
  rcases hm with ⟨_, rfl⟩ | ⟨h0, h1⟩
  · go_enter Try.func8, Try.ntmps8
    go_wp2_with (first
      | (go_at_call 11; refine (fixed_any _).mono ?_; rintro e w1 ⟨rfl, hb1⟩)
      | (go_at_call 19; refine (CF _).mono ?_; rintro e w2 ⟨rfl, hb2⟩)
      | (go_at_call 9; refine (CS _).mono ?_; rintro e w3 ⟨v3, rfl, ho3, hb3⟩; obtain ⟨g, cap, rfl, hg1, hg2, hg3, hcs⟩ := row_cells ho3 (by simp); have k0 := hcs 0 _ rfl; have k1 := hcs 1 _ rfl; have k2 := hcs 2 _ rfl; have k3 := hcs 3 _ rfl; have k4 := hcs 4 _ rfl; have k5 := hcs 5 _ rfl; have k6 := hcs 6 _ rfl; have k7 := hcs 7 _ rfl; have k8 := hcs 8 _ rfl; have k9 := hcs 9 _ rfl; have k10 := hcs 10 _ rfl; have k11 := hcs 11 _ rfl; rw [HX.out] at k5; have far := fun o u hu => alloc_cell (W := w3) (b := g) (o := o) (v := some u) hg2 hu; have m0 := far 0 _ k0; have m1 := far 1 _ k1; have m2 := far 2 _ k2; have m3 := far 3 _ k3; have m4 := far 4 _ k4; have m5 := far 5 _ k5; have m6 := far 6 _ k6; have m7 := far 7 _ k7; have m8 := far 8 _ k8; have m9 := far 9 _ k9; have m10 := far 10 _ k10; have m11 := far 11 _ k11; clear far hcs k0 k1 k2 k3 k4 k5 k6 k7 k8 k9 k10 k11))
    go_ret
    exact ⟨rfl, ((hb1.trans (hb2.mono hb1.size)).trans (hb3.mono (Nat.le_trans hb1.size hb2.size))).alloc (Nat.le_trans hb1.size (Nat.le_trans hb2.size hb3.size)) _⟩
  · obtain rfl : m = -(n : Int) - 1 := by omega
    have hneg : -(-(n : Int) - 1 + 1) = n := by omega
    clear h1
    go_enter Try.func8, Try.ntmps8
    go_wp2_with (first
      | (go_at_call 11; refine (fixed_any _).mono ?_; rintro e w1 ⟨rfl, hb1⟩)
      | (go_at_call 19; refine (CF _).mono ?_; rintro e w2 ⟨rfl, hb2⟩)
      | (go_at_call 9; refine (CS _).mono ?_; rintro e w3 ⟨v3, rfl, ho3, hb3⟩; obtain ⟨g, cap, rfl, hg1, hg2, hg3, hcs⟩ := row_cells ho3 (by simp); have k0 := hcs 0 _ rfl; have k1 := hcs 1 _ rfl; have k2 := hcs 2 _ rfl; have k3 := hcs 3 _ rfl; have k4 := hcs 4 _ rfl; have k5 := hcs 5 _ rfl; have k6 := hcs 6 _ rfl; have k7 := hcs 7 _ rfl; have k8 := hcs 8 _ rfl; have k9 := hcs 9 _ rfl; have k10 := hcs 10 _ rfl; have k11 := hcs 11 _ rfl; rw [HX.out] at k5; have far := fun o u hu => alloc_cell (W := w3) (b := g) (o := o) (v := some u) hg2 hu; have m0 := far 0 _ k0; have m1 := far 1 _ k1; have m2 := far 2 _ k2; have m3 := far 3 _ k3; have m4 := far 4 _ k4; have m5 := far 5 _ k5; have m6 := far 6 _ k6; have m7 := far 7 _ k7; have m8 := far 8 _ k8; have m9 := far 9 _ k9; have m10 := far 10 _ k10; have m11 := far 11 _ k11; clear far hcs k0 k1 k2 k3 k4 k5 k6 k7 k8 k9 k10 k11))
    go_ret
    exact ⟨rfl, ((hb1.trans (hb2.mono hb1.size)).trans (hb3.mono (Nat.le_trans hb1.size hb2.size))).alloc (Nat.le_trans hb1.size (Nat.le_trans hb2.size hb3.size)) _⟩

theorem numbers_walk (m : Int) (w : World) (h0 : -9223372036854775808 ≤ m) (h1 : m ≤ 9223372036854775807) : Calls Try.prog 8 #[.int .i64 m] w fun e w' => e = .returned (.bool true) ∧ Below w.heap.size w w' := by
  by_cases h : 0 ≤ m
  · exact numbers_pos m.toNat m (by omega) (.inl ⟨h, by omega⟩) w
  · exact numbers_pos (-(m + 1)).toNat m (by omega) (.inr ⟨by omega, by omega⟩) w

end Go.Proofs.Ytgjeiepcbenejaa
