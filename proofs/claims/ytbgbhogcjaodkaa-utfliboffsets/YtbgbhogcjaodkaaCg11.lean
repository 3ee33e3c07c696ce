/- The walk of the reference's Offset. -/
import Derived.Test.YtbgbhogcjaodkaaCg01
namespace Go.Proofs.Ytbgbhogcjaodkaa
open Go.RowKit

theorem bk_yes {s : ByteArray} {p : Nat} (h : 1 < p) (hi : inn s p = true) : bk s p = bk s (p - 1) := by
  obtain ⟨q, rfl⟩ : ∃ q, p = q + 1 := ⟨p - 1, by omega⟩
  rw [bk, if_pos ⟨by omega, hi⟩]; rfl
theorem bk_no {s : ByteArray} {p : Nat} (hi : inn s p = false) : bk s p = p := by
  cases p with
  | zero => rfl
  | succ q => rw [bk, if_neg (by rw [hi]; simp)]
theorem bk_one (s : ByteArray) : bk s 1 = 1 := by rw [bk, if_neg (by omega)]
set_option maxHeartbeats 2000000 in
theorem roffset_neg (s : ByteArray) (m : Nat) (i : Int) (w : World) (hs : s.size ≤ 140737488351232) (h1 : -9223372036854775808 ≤ i) (h2 : i ≤ 9223372036854775807) (hm : 1 ≤ m) (hm2 : m ≤ 9223372036854775808) (n : Int) (en : n = -(m : Int))
    (a : Nat) (ea : mt s.size i = (a : Nat)) (ha : 1 ≤ a) (hb : a ≤ s.size + 1) (hin : inn s a = false) :
    Calls Try.prog 18 #[.string s, .int .i64 n, .int .i64 i] w fun e w' => e = oR (fin (bwd s m a)) ∧ w' = w := by
  have C0 := fun W => means_any s.size i W hs h1 h2
  rw [ea] at C0
  have C1 := fun W => rinner_any s a W hs ha (by omega)
  rw [hin] at C1
  have q1 : ¬ (a : Int) < 1 := by omega
  have q2 : IntKind.i64.wrap ((s.size : Int) + 1) = (s.size : Int) + 1 := by rw [IntKind.wrap_i64]; omega
  have q3 : ¬ (s.size : Int) + 1 < (a : Int) := by omega
  have q4 : (n == 0) = false := by simp; omega
  have q5 : n < 0 := by omega
  have HN : Hid (n = -(m : Int)) := en
  clear en
  unfold oR
  go_enter Try.func18, Try.ntmps18
  go_wp2_with (first
    | (go_at_call 28; refine (C0 _).mono ?_; rintro e w1 ⟨rfl, hw1⟩; subst w1)
    | (go_at_call 36; refine (C1 _).mono ?_; rintro e w1 ⟨rfl, hw1⟩; subst w1))
  go_loopw [1, 9] (fun nv av wr => ∃ k p : Nat, nv = .int .i64 (-(k : Int)) ∧ av = .int .i64 (p : Nat) ∧ k ≤ 9223372036854775808 ∧ 1 ≤ p ∧ p ≤ s.size + 1 ∧ Hid (bwd s k p = bwd s m a) ∧ wr = w) (fun _ av _ => (intOf av).toNat)
  case atStart => exact ⟨m, a, by rw [HN.out], rfl, hm2, ha, hb, rfl, rfl⟩
  case round =>
    obtain ⟨k, p, rfl, rfl, hk, h3, h4, HE, hwr⟩ := hrel
    subst wr
    clear C0 C1 ea hin
    by_cases hk0 : k = 0
    · subst hk0
      have HE2 : Hid (fin (bwd s m a) = ((p : Int), true, 0)) := by show _ = _; rw [← HE.out]; rfl
      go_wp2
      refine bodyPost_ret (v := .tuple #[_, _, _]) (by simp [results, Try.results18, go_sem]; exact ⟨rfl, rfl, rfl⟩) rfl ?_
      rw [HE2.out]
      exact ⟨rfl, rfl⟩
    · have hn : -(k : Int) < 0 := by omega
      by_cases hp : 1 < p
      · have hp' : (1 : Int) < (p : Int) := by omega
        have w1 : IntKind.i64.wrap ((p : Int) - 1) = ((p - 1 : Nat) : Int) := by rw [IntKind.wrap_i64]; omega
        have w2 : IntKind.i64.wrap (-(k : Int) + 1) = -((k - 1 : Nat) : Int) := by rw [IntKind.wrap_i64]; omega
        have HE2 : Hid (bwd s (k - 1) (bk s (p - 1)) = bwd s m a) := by
          show _ = _
          rw [← HE.out]
          obtain ⟨q, rfl⟩ : ∃ q, k = q + 1 := ⟨k - 1, by omega⟩
          rw [bwd_step hp]; rfl
        go_wp2
        go_loopw [9] (fun av wr => ∃ x : Nat, av = .int .i64 (x : Nat) ∧ 1 ≤ x ∧ x ≤ p - 1 ∧ Hid (bk s x = bk s (p - 1)) ∧ wr = w) (fun av _ => (intOf av).toNat)
        case atStart => exact ⟨p - 1, rfl, by omega, by omega, rfl, rfl⟩
        case round =>
          obtain ⟨x, rfl, h5, h6, HX, hwr⟩ := hrel
          subst wr
          have C := fun W => rinner_any s x W hs h5 (by omega)
          by_cases hx : 1 < x
          · have hx' : (1 : Int) < (x : Int) := by omega
            have w3 : IntKind.i64.wrap ((x : Int) - 1) = ((x - 1 : Nat) : Int) := by rw [IntKind.wrap_i64]; omega
            cases hi : inn s x with
            | true =>
              have HX2 : Hid (bk s (x - 1) = bk s (p - 1)) := by show _ = _; rw [← HX.out, bk_yes hx hi]
              rw [hi] at C
              go_wp2_with (go_at_call 36; refine (C _).mono ?_; rintro e w1 ⟨rfl, hw1⟩; subst w1)
              go_roundw
              case rel => exact ⟨x - 1, rfl, by omega, by omega, HX2, by first | rfl | trivial⟩
              case measure => simp [intOf]; omega
            | false =>
              have HX2 : Hid (bk s (p - 1) = x) := by show _ = _; rw [← HX.out, bk_no hi]
              rw [hi] at C
              rw [HX2.out] at HE2
              go_wp2_with (go_at_call 36; refine (C _).mono ?_; rintro e w1 ⟨rfl, hw1⟩; subst w1)
              go_roundw
              case rel => exact ⟨k - 1, x, rfl, rfl, by omega, h5, by omega, HE2, by first | rfl | trivial⟩
              case measure => simp [intOf]; omega
          · obtain rfl : x = 1 := by omega
            have HX2 : Hid (bk s (p - 1) = 1) := by show _ = _; rw [← HX.out, bk_one]
            rw [HX2.out] at HE2
            go_wp2
            go_roundw
            case rel => exact ⟨k - 1, 1, rfl, rfl, by omega, by omega, by omega, HE2, by first | rfl | trivial⟩
            case measure => simp [intOf]; omega
      · have hp' : ¬ (1 : Int) < (p : Int) := by omega
        have HE2 : Hid (fin (bwd s m a) = (0, false, 0)) := by
          show _ = _
          rw [← HE.out]
          obtain ⟨q, rfl⟩ : ∃ q, k = q + 1 := ⟨k - 1, by omega⟩
          rw [bwd_stop hp, fin_1]
        have hn3 : (-(k : Int) == 0) = false := by simp; omega
        go_wp2
        refine bodyPost_ret (v := .tuple #[_, _, _]) (by simp [results, Try.results18, go_sem]; exact ⟨rfl, rfl, rfl⟩) rfl ?_
        rw [HE2.out]
        exact ⟨rfl, rfl⟩
set_option maxHeartbeats 2000000 in
theorem roffset_pos (s : ByteArray) (m : Nat) (i : Int) (w : World) (hs : s.size ≤ 140737488351232) (h1 : -9223372036854775808 ≤ i) (h2 : i ≤ 9223372036854775807) (hm2 : m + 1 ≤ 9223372036854775807)
    (a : Nat) (ea : mt s.size i = (a : Nat)) (ha : 1 ≤ a) (hb : a ≤ s.size + 1) (hin : inn s a = false) :
    Calls Try.prog 18 #[.string s, .int .i64 ((m : Int) + 1), .int .i64 i] w fun e w' => e = oR (fin (fwd s m a)) ∧ w' = w := by
  have C0 := fun W => means_any s.size i W hs h1 h2
  rw [ea] at C0
  have C1 := fun W => rinner_any s a W hs ha (by omega)
  rw [hin] at C1
  have q1 : ¬ (a : Int) < 1 := by omega
  have q2 : IntKind.i64.wrap ((s.size : Int) + 1) = (s.size : Int) + 1 := by rw [IntKind.wrap_i64]; omega
  have q3 : ¬ (s.size : Int) + 1 < (a : Int) := by omega
  have q4 : ((m : Int) + 1 == 0) = false := by simp; omega
  have q5 : ¬ (m : Int) + 1 < 0 := by omega
  have q6 : IntKind.i64.wrap ((m : Int) + 1 - 1) = (m : Int) := by rw [IntKind.wrap_i64]; omega
  unfold oR
  go_enter Try.func18, Try.ntmps18
  go_wp2_with (first
    | (go_at_call 28; refine (C0 _).mono ?_; rintro e w1 ⟨rfl, hw1⟩; subst w1)
    | (go_at_call 36; refine (C1 _).mono ?_; rintro e w1 ⟨rfl, hw1⟩; subst w1))
  go_loopw [1, 9] (fun nv av wr => ∃ k p : Nat, nv = .int .i64 (k : Nat) ∧ av = .int .i64 (p : Nat) ∧ k ≤ 9223372036854775807 ∧ 1 ≤ p ∧ p ≤ s.size + 1 ∧ Hid (fwd s k p = fwd s m a) ∧ wr = w) (fun _ av _ => s.size + 2 - (intOf av).toNat)
  case atStart => exact ⟨m, a, rfl, rfl, by omega, ha, hb, rfl, rfl⟩
  case round =>
    obtain ⟨k, p, rfl, rfl, hk, h3, h4, HE, hwr⟩ := hrel
    subst wr
    clear C0 C1 ea hin
    by_cases hk0 : k = 0
    · subst hk0
      have HE2 : Hid (fin (fwd s m a) = ((p : Int), true, 0)) := by show _ = _; rw [← HE.out]; rfl
      go_wp2
      refine bodyPost_ret (v := .tuple #[_, _, _]) (by simp [results, Try.results18, go_sem]; exact ⟨rfl, rfl, rfl⟩) rfl ?_
      rw [HE2.out]
      exact ⟨rfl, rfl⟩
    · have hn : 0 < (k : Int) := by omega
      by_cases hp : p ≤ s.size
      · have hp' : (p : Int) ≤ (s.size : Int) := by omega
        have w1 : IntKind.i64.wrap ((p : Int) + 1) = ((p + 1 : Nat) : Int) := by rw [IntKind.wrap_i64]; omega
        have w2 : IntKind.i64.wrap ((k : Int) - 1) = ((k - 1 : Nat) : Int) := by rw [IntKind.wrap_i64]; omega
        have HE2 : Hid (fwd s (k - 1) (on s (p + 1)) = fwd s m a) := by
          show _ = _
          rw [← HE.out]
          obtain ⟨q, rfl⟩ : ∃ q, k = q + 1 := ⟨k - 1, by omega⟩
          rw [fwd_step hp]; rfl
        go_wp2
        go_loopw [9] (fun av wr => ∃ x : Nat, av = .int .i64 (x : Nat) ∧ p + 1 ≤ x ∧ x ≤ s.size + 1 ∧ Hid (on s x = on s (p + 1)) ∧ wr = w) (fun av _ => s.size + 2 - (intOf av).toNat)
        case atStart => exact ⟨p + 1, rfl, by omega, by omega, rfl, rfl⟩
        case round =>
          obtain ⟨x, rfl, h5, h6, HX, hwr⟩ := hrel
          subst wr
          have C := fun W => rinner_any s x W hs (by omega) (by omega)
          have w3 : IntKind.i64.wrap ((x : Int) + 1) = ((x + 1 : Nat) : Int) := by rw [IntKind.wrap_i64]; omega
          cases hi : inn s x with
          | true =>
            have hle := inn_le hi
            have HX2 : Hid (on s (x + 1) = on s (p + 1)) := by show _ = _; rw [← HX.out, on_yes hi]
            rw [hi] at C
            go_wp2_with (go_at_call 36; refine (C _).mono ?_; rintro e w1 ⟨rfl, hw1⟩; subst w1)
            go_roundw
            case rel => exact ⟨x + 1, rfl, by omega, by omega, HX2, by first | rfl | trivial⟩
            case measure => simp [intOf]; omega
          | false =>
            have HX2 : Hid (on s (p + 1) = x) := by show _ = _; rw [← HX.out, on_no hi]
            rw [hi] at C
            rw [HX2.out] at HE2
            go_wp2_with (go_at_call 36; refine (C _).mono ?_; rintro e w1 ⟨rfl, hw1⟩; subst w1)
            go_roundw
            case rel => exact ⟨k - 1, x, rfl, rfl, by omega, by omega, by omega, HE2, by first | rfl | trivial⟩
            case measure => simp [intOf]; omega
      · have hp' : ¬ (p : Int) ≤ (s.size : Int) := by omega
        have HE2 : Hid (fin (fwd s m a) = (0, false, 0)) := by
          show _ = _
          rw [← HE.out]
          obtain ⟨q, rfl⟩ : ∃ q, k = q + 1 := ⟨k - 1, by omega⟩
          rw [fwd_stop hp, fin_1]
        have hn3 : ((k : Int) == 0) = false := by simp; omega
        go_wp2
        refine bodyPost_ret (v := .tuple #[_, _, _]) (by simp [results, Try.results18, go_sem]; exact ⟨rfl, rfl, rfl⟩) rfl ?_
        rw [HE2.out]
        exact ⟨rfl, rfl⟩
theorem roffset_any (s : ByteArray) (n i : Int) (w : World) (hs : s.size ≤ 140737488351232) (h1 : -9223372036854775808 ≤ i) (h2 : i ≤ 9223372036854775807) (h3 : -9223372036854775808 ≤ n) (h4 : n ≤ 9223372036854775807) :
    Calls Try.prog 18 #[.string s, .int .i64 n, .int .i64 i] w fun e w' => e = oR (ofs s n i) ∧ w' = w := by
  have C0 := fun W => means_any s.size i W hs h1 h2
  have hmt := mt_le hs h1 h2
  have q2 : IntKind.i64.wrap ((s.size : Int) + 1) = (s.size : Int) + 1 := by rw [IntKind.wrap_i64]; omega
  by_cases hA : mt s.size i < 1 ∨ (s.size : Int) + 1 < mt s.size i
  · have e : ofs s n i = (0, false, 1) := if_pos hA
    rw [e]
    unfold oR
    generalize mt s.size i = A at *
    by_cases hA1 : A < 1
    · go_enter Try.func18, Try.ntmps18
      go_wp2_with (go_at_call 28; refine (C0 _).mono ?_; rintro e w1 ⟨rfl, hw1⟩; subst w1)
      refine bodyPost_ret (v := .tuple #[_, _, _]) (by simp [results, Try.results18, go_sem]; exact ⟨rfl, rfl, rfl⟩) rfl ?_
      exact ⟨rfl, rfl⟩
    · have hA2 : (s.size : Int) + 1 < A := by omega
      go_enter Try.func18, Try.ntmps18
      go_wp2_with (go_at_call 28; refine (C0 _).mono ?_; rintro e w1 ⟨rfl, hw1⟩; subst w1)
      refine bodyPost_ret (v := .tuple #[_, _, _]) (by simp [results, Try.results18, go_sem]; exact ⟨rfl, rfl, rfl⟩) rfl ?_
      exact ⟨rfl, rfl⟩
  · obtain ⟨a, ea⟩ : ∃ a : Nat, mt s.size i = (a : Nat) := ⟨(mt s.size i).toNat, by omega⟩
    have et : (mt s.size i).toNat = a := by omega
    have ha : 1 ≤ a := by omega
    have hb : a ≤ s.size + 1 := by omega
    by_cases hn0 : n = 0
    · subst hn0
      have e : ofs s 0 i = ((bk s a : Int), true, 0) := by unfold ofs; rw [if_neg hA, if_pos rfl, et]
      rw [e]
      unfold oR
      rw [ea] at C0
      have q1 : ¬ (a : Int) < 1 := by omega
      have q3 : ¬ (s.size : Int) + 1 < (a : Int) := by omega
      clear e
      go_enter Try.func18, Try.ntmps18
      go_wp2_with (go_at_call 28; refine (C0 _).mono ?_; rintro e w1 ⟨rfl, hw1⟩; subst w1)
      go_loopw [9] (fun av wr => ∃ x : Nat, av = .int .i64 (x : Nat) ∧ 1 ≤ x ∧ x ≤ s.size + 1 ∧ Hid (bk s x = bk s a) ∧ wr = w) (fun av _ => (intOf av).toNat)
      case atStart => exact ⟨a, rfl, by omega, by omega, rfl, rfl⟩
      case round =>
        obtain ⟨x, rfl, h5, h6, HX, hwr⟩ := hrel
        subst wr
        clear C0 q1 q3 ea et hA hmt
        have C := fun W => rinner_any s x W hs h5 (by omega)
        by_cases hx : 1 < x
        · have hx' : (1 : Int) < (x : Int) := by omega
          have w3 : IntKind.i64.wrap ((x : Int) - 1) = ((x - 1 : Nat) : Int) := by rw [IntKind.wrap_i64]; omega
          cases hi : inn s x with
          | true =>
            have HX2 : Hid (bk s (x - 1) = bk s a) := by show _ = _; rw [← HX.out, bk_yes hx hi]
            rw [hi] at C
            go_wp2_with (go_at_call 36; refine (C _).mono ?_; rintro e w1 ⟨rfl, hw1⟩; subst w1)
            go_roundw
            case rel => exact ⟨x - 1, rfl, by omega, by omega, HX2, by first | rfl | trivial⟩
            case measure => simp [intOf]; omega
          | false =>
            have HX2 : Hid (bk s a = x) := by show _ = _; rw [← HX.out, bk_no hi]
            rw [hi] at C
            go_wp2_with (go_at_call 36; refine (C _).mono ?_; rintro e w1 ⟨rfl, hw1⟩; subst w1)
            refine bodyPost_ret (v := .tuple #[_, _, _]) (by simp [results, Try.results18, go_sem]; exact ⟨rfl, rfl, rfl⟩) rfl ?_
            rw [HX2.out]
            exact ⟨rfl, rfl⟩
        · obtain rfl : x = 1 := by omega
          have HX2 : Hid (bk s a = 1) := by show _ = _; rw [← HX.out, bk_one]
          go_wp2
          refine bodyPost_ret (v := .tuple #[_, _, _]) (by simp [results, Try.results18, go_sem]; exact ⟨rfl, rfl, rfl⟩) rfl ?_
          rw [HX2.out]
          exact ⟨rfl, rfl⟩
    · cases hin : inn s a with
      | true =>
        have e : ofs s n i = (0, false, 1) := by unfold ofs; rw [if_neg hA, if_neg hn0, et, if_pos hin]
        rw [e]
        unfold oR
        rw [ea] at C0
        have q1 : ¬ (a : Int) < 1 := by omega
        have q3 : ¬ (s.size : Int) + 1 < (a : Int) := by omega
        have q4 : (n == 0) = false := by simpa using hn0
        have C1 := fun W => rinner_any s a W hs ha (by omega)
        rw [hin] at C1
        go_enter Try.func18, Try.ntmps18
        go_wp2_with (first
          | (go_at_call 28; refine (C0 _).mono ?_; rintro e w1 ⟨rfl, hw1⟩; subst w1)
          | (go_at_call 36; refine (C1 _).mono ?_; rintro e w1 ⟨rfl, hw1⟩; subst w1))
        refine bodyPost_ret (v := .tuple #[_, _, _]) (by simp [results, Try.results18, go_sem]; exact ⟨rfl, rfl, rfl⟩) rfl ?_
        exact ⟨rfl, rfl⟩
      | false =>
        by_cases hp : 0 < n
        · have e : ofs s n i = fin (fwd s (n - 1).toNat a) := by unfold ofs; rw [if_neg hA, if_neg hn0, et, if_neg (by rw [hin]; simp), if_pos hp]
          rw [e]
          have q := roffset_pos s (n - 1).toNat i w hs h1 h2 (by omega) a ea ha hb hin
          rw [show (((n - 1).toNat : Nat) : Int) + 1 = n by omega] at q
          exact q
        · have e : ofs s n i = fin (bwd s (-n).toNat a) := by unfold ofs; rw [if_neg hA, if_neg hn0, et, if_neg (by rw [hin]; simp), if_neg hp]
          rw [e]
          have q := roffset_neg s (-n).toNat i w hs h1 h2 (by omega) (by omega) n (by omega) a ea ha hb hin
          exact q
end Go.Proofs.Ytbgbhogcjaodkaa
