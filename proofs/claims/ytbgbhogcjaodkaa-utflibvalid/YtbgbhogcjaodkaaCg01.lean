/- Places and inner bytes of a text: the walks of meant, Means, inner, back and on. -/
import Derived.Test.YtbgbhogcjaodkaaCg00
namespace Go.Proofs.Ytbgbhogcjaodkaa
open Go.RowKit

/-- The place that i means in a text of n bytes. -/
def mt (n : Nat) (i : Int) : Int := if 0 ≤ i then i else if -(n : Int) ≤ i then (n : Int) + 1 + i else 0
theorem mt_le {n : Nat} (hn : n ≤ 140737488351232) {i : Int} (h1 : -9223372036854775808 ≤ i) (h2 : i ≤ 9223372036854775807) : 0 ≤ mt n i ∧ mt n i ≤ 9223372036854775807 := by
  unfold mt; split
  · omega
  · split <;> omega
theorem meant_any (s : ByteArray) (i : Int) (w : World) (hs : s.size ≤ 140737488351232) (h1 : -9223372036854775808 ≤ i) (h2 : i ≤ 9223372036854775807) : Calls Try.prog 25 #[.string s, .int .i64 i] w fun e w' => e = .returned (.int .i64 (mt s.size i)) ∧ w' = w := by
  by_cases a : 0 ≤ i
  · have e : mt s.size i = i := if_pos a
    rw [e]
    go_enter Try.func25, Try.ntmps25
    go_wp2
    go_ret
    exact ⟨rfl, rfl⟩
  · by_cases b : -(s.size : Int) ≤ i
    · have e : mt s.size i = (s.size : Int) + 1 + i := by unfold mt; rw [if_neg a, if_pos b]
      rw [e]
      have w1 : IntKind.i64.wrap (-(s.size : Int)) = -(s.size : Int) := by rw [IntKind.wrap_i64]; omega
      have w2 : IntKind.i64.wrap ((s.size : Int) + 1) = (s.size : Int) + 1 := by rw [IntKind.wrap_i64]; omega
      have w3 : IntKind.i64.wrap ((s.size : Int) + 1 + i) = (s.size : Int) + 1 + i := by rw [IntKind.wrap_i64]; omega
      go_enter Try.func25, Try.ntmps25
      go_wp2
      go_ret
      exact ⟨rfl, rfl⟩
    · have e : mt s.size i = 0 := by unfold mt; rw [if_neg a, if_neg b]
      rw [e]
      have w1 : IntKind.i64.wrap (-(s.size : Int)) = -(s.size : Int) := by rw [IntKind.wrap_i64]; omega
      go_enter Try.func25, Try.ntmps25
      go_wp2
      go_ret
      exact ⟨rfl, rfl⟩
theorem means_any (n : Nat) (i : Int) (w : World) (hs : n ≤ 140737488351232) (h1 : -9223372036854775808 ≤ i) (h2 : i ≤ 9223372036854775807) : Calls Try.prog 28 #[.int .i64 i, .int .i64 n] w fun e w' => e = .returned (.int .i64 (mt n i)) ∧ w' = w := by
  by_cases a : 0 ≤ i
  · have e : mt n i = i := if_pos a
    rw [e]
    go_enter Try.func28, Try.ntmps28
    go_wp2
    go_ret
    exact ⟨rfl, rfl⟩
  · by_cases b : -(n : Int) ≤ i
    · have e : mt n i = (n : Int) + 1 + i := by unfold mt; rw [if_neg a, if_pos b]
      rw [e]
      have w1 : IntKind.i64.wrap (-(n : Int)) = -(n : Int) := by rw [IntKind.wrap_i64]; omega
      have w2 : IntKind.i64.wrap ((n : Int) + 1) = (n : Int) + 1 := by rw [IntKind.wrap_i64]; omega
      have w3 : IntKind.i64.wrap ((n : Int) + 1 + i) = (n : Int) + 1 + i := by rw [IntKind.wrap_i64]; omega
      go_enter Try.func28, Try.ntmps28
      go_wp2
      go_ret
      exact ⟨rfl, rfl⟩
    · have e : mt n i = 0 := by unfold mt; rw [if_neg a, if_neg b]
      rw [e]
      have w1 : IntKind.i64.wrap (-(n : Int)) = -(n : Int) := by rw [IntKind.wrap_i64]; omega
      go_enter Try.func28, Try.ntmps28
      go_wp2
      go_ret
      exact ⟨rfl, rfl⟩
/-- Is the byte at the place (from 1 on) inner? -/
def inn (s : ByteArray) (a : Nat) : Bool := decide (a ≤ s.size ∧ 128 ≤ (s.get! (a - 1)).toNat ∧ (s.get! (a - 1)).toNat ≤ 191)
theorem bits_inner_fin : ∀ b : Fin 256, (bits BinOp.and IntKind.u8 ((b.val : Nat) : Int) 192 == 128) = decide (128 ≤ b.val ∧ b.val ≤ 191) := by decide +kernel
theorem bits_inner (b : Nat) (h : b < 256) : (bits BinOp.and IntKind.u8 (b : Int) 192 == 128) = decide (128 ≤ b ∧ b ≤ 191) := bits_inner_fin ⟨b, h⟩
theorem inner_any (s : ByteArray) (a : Nat) (w : World) (hs : s.size ≤ 140737488351232) (ha : 1 ≤ a) (hb : a ≤ 140737488351240) : Calls Try.prog 34 #[.string s, .int .i64 a] w fun e w' => e = .returned (.bool (inn s a)) ∧ w' = w := by
  by_cases h : a ≤ s.size
  · have hp : a - 1 < s.size := by omega
    have w1 : IntKind.i64.wrap ((a : Int) - 1) = ((a - 1 : Nat) : Int) := by rw [IntKind.wrap_i64]; omega
    have hle : (a : Int) ≤ (s.size : Int) := by omega
    obtain ⟨b, hb⟩ : ∃ b : Nat, s[a - 1].toNat = b := ⟨_, rfl⟩
    have hb' : (s.get! (a - 1)).toNat = b := by
     rw [← hb]
     have : s.get! (a - 1) = s[a - 1] := by simp [ByteArray.get!, getElem!_pos, hp]; rfl
     rw [this]
    have hlt := byte_lt s (a - 1)
    rw [hb'] at hlt
    have e : inn s a = decide (128 ≤ b ∧ b ≤ 191) := by unfold inn; rw [hb']; simp [h]
    rw [e]
    go_enter Try.func34, Try.ntmps34
    go_wp2
    go_ret
    exact ⟨congrArg Ending.returned (congrArg Value.bool (bits_inner b hlt)), rfl⟩
  · have e : inn s a = false := by unfold inn; simp [h]
    rw [e]
    have hle : ¬ (a : Int) ≤ (s.size : Int) := by omega
    go_enter Try.func34, Try.ntmps34
    go_wp2
    go_ret
    exact ⟨rfl, rfl⟩
theorem rinner_any (s : ByteArray) (a : Nat) (w : World) (hs : s.size ≤ 140737488351232) (ha : 1 ≤ a) (hb : a ≤ 140737488351240) : Calls Try.prog 36 #[.string s, .int .i64 a] w fun e w' => e = .returned (.bool (inn s a)) ∧ w' = w := by
  by_cases h : a ≤ s.size
  · have hp : a - 1 < s.size := by omega
    have w1 : IntKind.i64.wrap ((a : Int) - 1) = ((a - 1 : Nat) : Int) := by rw [IntKind.wrap_i64]; omega
    have hle : (a : Int) ≤ (s.size : Int) := by omega
    obtain ⟨b, hb⟩ : ∃ b : Nat, s[a - 1].toNat = b := ⟨_, rfl⟩
    have hb' : (s.get! (a - 1)).toNat = b := by
     rw [← hb]
     have : s.get! (a - 1) = s[a - 1] := by simp [ByteArray.get!, getElem!_pos, hp]; rfl
     rw [this]
    have hlt := byte_lt s (a - 1)
    rw [hb'] at hlt
    have e : inn s a = decide (128 ≤ b ∧ b ≤ 191) := by unfold inn; rw [hb']; simp [h]
    rw [e]
    by_cases hb1 : 128 ≤ b
    · have hb2 : (128 : Int) ≤ (b : Int) := by omega
      go_enter Try.func36, Try.ntmps36
      go_wp2
      go_ret
      refine ⟨congrArg Ending.returned (congrArg Value.bool ?_), rfl⟩
      rw [decide_eq_decide]; omega
    · have hb2 : ¬ (128 : Int) ≤ (b : Int) := by omega
      have e2 : decide (128 ≤ b ∧ b ≤ 191) = false := decide_eq_false (by omega)
      rw [e2]
      go_enter Try.func36, Try.ntmps36
      go_wp2
      go_ret
      exact ⟨rfl, rfl⟩
  · have e : inn s a = false := by unfold inn; simp [h]
    rw [e]
    have hle : ¬ (a : Int) ≤ (s.size : Int) := by omega
    go_enter Try.func36, Try.ntmps36
    go_wp2
    go_ret
    exact ⟨rfl, rfl⟩
/-- Down to the first place whose byte isn't inner, or to 1; and the same upwards. -/
def bk (s : ByteArray) : Nat → Nat
  | 0 => 0
  | a + 1 => if 0 < a ∧ inn s (a + 1) = true then bk s a else a + 1
theorem bk_le (s : ByteArray) : ∀ a, bk s a ≤ a
  | 0 => Nat.le_refl _
  | a + 1 => by rw [bk]; split; exact Nat.le_trans (bk_le s a) (by omega); exact Nat.le_refl _
theorem bk_pos (s : ByteArray) : ∀ a, 1 ≤ a → 1 ≤ bk s a
  | 0, h => by omega
  | a + 1, _ => by
    rw [bk]; split
    · rename_i q; exact bk_pos s a q.1
    · omega
def onF (s : ByteArray) : Nat → Nat → Nat
  | 0, a => a
  | f + 1, a => if inn s a = true then onF s f (a + 1) else a
def on (s : ByteArray) (a : Nat) : Nat := onF s (s.size + 1 - a) a
theorem inn_le {s : ByteArray} {a : Nat} (h : inn s a = true) : a ≤ s.size := by unfold inn at h; exact (of_decide_eq_true h).1
theorem on_yes {s : ByteArray} {a : Nat} (h : inn s a = true) : on s a = on s (a + 1) := by
  have := inn_le h
  unfold on
  rw [show s.size + 1 - a = (s.size + 1 - (a + 1)) + 1 by omega, onF, if_pos h]
theorem on_no {s : ByteArray} {a : Nat} (h : inn s a = false) : on s a = a := by
  unfold on
  cases hf : s.size + 1 - a with
  | zero => rfl
  | succ f => rw [onF, if_neg (by rw [h]; simp)]
theorem onF_ge (s : ByteArray) : ∀ f a, a ≤ onF s f a
  | 0, _ => Nat.le_refl _
  | f + 1, a => by rw [onF]; split; exact Nat.le_trans (by omega) (onF_ge s f (a + 1)); exact Nat.le_refl _
theorem on_ge (s : ByteArray) (a : Nat) : a ≤ on s a := onF_ge s _ a
theorem onF_le (s : ByteArray) : ∀ f a, a + f ≤ s.size + 1 → onF s f a ≤ s.size + 1
  | 0, a, h => by rw [onF]; omega
  | f + 1, a, h => by rw [onF]; split; exact onF_le s f (a + 1) (by omega); omega
theorem on_le (s : ByteArray) (a : Nat) (h : a ≤ s.size + 1) : on s a ≤ s.size + 1 := onF_le s _ a (by omega)
theorem back_any (s : ByteArray) (a : Nat) (w : World) (hs : s.size ≤ 140737488351232) (ha : 1 ≤ a) (hb : a ≤ s.size + 1) : Calls Try.prog 33 #[.string s, .int .i64 a] w fun e w' => e = .returned (.int .i64 (bk s a)) ∧ w' = w := by
  go_enter Try.func33, Try.ntmps33
  go_wp2
  go_loopw [1] (fun i wr => ∃ p : Nat, i = .int .i64 p ∧ 1 ≤ p ∧ p ≤ s.size + 1 ∧ Hid (bk s p = bk s a) ∧ wr = w) (fun i _ => (intOf i).toNat)
  case atStart => exact ⟨a, rfl, ha, hb, rfl, rfl⟩
  case round =>
    obtain ⟨p, rfl, h1, h2, HE, rfl⟩ := hrel
    have C := fun W => inner_any s p W hs h1 (by omega)
    by_cases hp : 1 < p
    · have hp' : (1 : Int) < (p : Int) := by omega
      have w1 : IntKind.i64.wrap ((p : Int) - 1) = ((p - 1 : Nat) : Int) := by rw [IntKind.wrap_i64]; omega
      cases hi : inn s p with
      | true =>
        have HE2 : Hid (bk s (p - 1) = bk s a) := by
          show _ = _
          rw [← HE.out]
          obtain ⟨q, rfl⟩ : ∃ q, p = q + 1 := ⟨p - 1, by omega⟩
          rw [bk, if_pos ⟨by omega, hi⟩]; rfl
        rw [hi] at C
        go_wp2_with (go_at_call 34; refine (C _).mono ?_; rintro e w' ⟨rfl, rfl⟩)
        go_roundw
        case rel => exact ⟨p - 1, rfl, by omega, by omega, HE2, by first | rfl | trivial⟩
        case measure => simp [intOf]; omega
      | false =>
        have HE2 : Hid (p = bk s a) := by
          show _ = _
          rw [← HE.out]
          obtain ⟨q, rfl⟩ : ∃ q, p = q + 1 := ⟨p - 1, by omega⟩
          rw [bk, if_neg (by rw [hi]; simp)]
        rw [hi] at C
        go_wp2_with (go_at_call 34; refine (C _).mono ?_; rintro e w' ⟨rfl, rfl⟩)
        go_ret
        exact ⟨ret1 (by rw [← HE2.out]), rfl⟩
    · obtain rfl : p = 1 := by omega
      have HE2 : Hid (1 = bk s a) := by show _ = _; rw [← HE.out]; rw [bk, if_neg (by omega)]
      go_wp2
      go_ret
      exact ⟨ret1 (by rw [← HE2.out]), rfl⟩
theorem on_any (s : ByteArray) (a : Nat) (w : World) (hs : s.size ≤ 140737488351232) (ha : 1 ≤ a) (hb : a ≤ s.size + 1) : Calls Try.prog 35 #[.string s, .int .i64 a] w fun e w' => e = .returned (.int .i64 (on s a)) ∧ w' = w := by
  go_enter Try.func35, Try.ntmps35
  go_wp2
  go_loopw [1] (fun i wr => ∃ p : Nat, i = .int .i64 p ∧ 1 ≤ p ∧ p ≤ s.size + 1 ∧ Hid (on s p = on s a) ∧ wr = w) (fun i _ => s.size + 2 - (intOf i).toNat)
  case atStart => exact ⟨a, rfl, ha, hb, rfl, rfl⟩
  case round =>
    obtain ⟨p, rfl, h1, h2, HE, rfl⟩ := hrel
    have C := fun W => inner_any s p W hs h1 (by omega)
    have w1 : IntKind.i64.wrap ((p : Int) + 1) = ((p + 1 : Nat) : Int) := by rw [IntKind.wrap_i64]; omega
    cases hi : inn s p with
    | true =>
      have hle := inn_le hi
      have HE2 : Hid (on s (p + 1) = on s a) := by show _ = _; rw [← HE.out, on_yes hi]
      rw [hi] at C
      go_wp2_with (go_at_call 34; refine (C _).mono ?_; rintro e w' ⟨rfl, rfl⟩)
      go_roundw
      case rel => exact ⟨p + 1, rfl, by omega, by omega, HE2, by first | rfl | trivial⟩
      case measure => simp [intOf]; omega
    | false =>
      have HE2 : Hid (p = on s a) := by show _ = _; rw [← HE.out, on_no hi]
      rw [hi] at C
      go_wp2_with (go_at_call 34; refine (C _).mono ?_; rintro e w' ⟨rfl, rfl⟩)
      go_ret
      exact ⟨ret1 (by rw [← HE2.out]), rfl⟩
end Go.Proofs.Ytbgbhogcjaodkaa

/- The walks of Offset, the program's and the reference's. -/
namespace Go.Proofs.Ytbgbhogcjaodkaa
open Go.RowKit

/-- n runes on, or back: how many are left, and the place. -/
def fwd (s : ByteArray) : Nat → Nat → Nat × Nat
  | 0, a => (0, a)
  | n + 1, a => if a ≤ s.size then fwd s n (on s (a + 1)) else (n + 1, a)
def bwd (s : ByteArray) : Nat → Nat → Nat × Nat
  | 0, a => (0, a)
  | n + 1, a => if 1 < a then bwd s n (bk s (a - 1)) else (n + 1, a)
def fin (r : Nat × Nat) : Int × Bool × Int := if r.1 = 0 then ((r.2 : Int), true, 0) else (0, false, 0)
def ofs (s : ByteArray) (n i : Int) : Int × Bool × Int :=
  if mt s.size i < 1 ∨ (s.size : Int) + 1 < mt s.size i then (0, false, 1)
  else if n = 0 then ((bk s (mt s.size i).toNat : Int), true, 0)
  else if inn s (mt s.size i).toNat = true then (0, false, 1)
  else if 0 < n then fin (fwd s (n - 1).toNat (mt s.size i).toNat) else fin (bwd s (-n).toNat (mt s.size i).toNat)
theorem fin_0 (a : Nat) : fin (0, a) = ((a : Int), true, 0) := rfl
theorem fin_1 (m a : Nat) : fin (m + 1, a) = (0, false, 0) := by unfold fin; rw [if_neg (by simp)]
def oR (r : Int × Bool × Int) : Ending := .returned (.tuple #[.int .i64 r.1, .bool r.2.1, .int .i64 r.2.2])
theorem bwd_step {s : ByteArray} {m a : Nat} (h : 1 < a) : bwd s (m + 1) a = bwd s m (bk s (a - 1)) := by rw [bwd, if_pos h]
theorem bwd_stop {s : ByteArray} {m a : Nat} (h : ¬ 1 < a) : bwd s (m + 1) a = (m + 1, a) := by rw [bwd, if_neg h]
theorem fwd_step {s : ByteArray} {m a : Nat} (h : a ≤ s.size) : fwd s (m + 1) a = fwd s m (on s (a + 1)) := by rw [fwd, if_pos h]
theorem fwd_stop {s : ByteArray} {m a : Nat} (h : ¬ a ≤ s.size) : fwd s (m + 1) a = (m + 1, a) := by rw [fwd, if_neg h]
set_option maxHeartbeats 2000000 in
theorem offset_neg (s : ByteArray) (m : Nat) (i : Int) (w : World) (hs : s.size ≤ 140737488351232) (h1 : -9223372036854775808 ≤ i) (h2 : i ≤ 9223372036854775807) (hm : 1 ≤ m) (hm2 : m ≤ 9223372036854775808)
    (a : Nat) (ea : mt s.size i = (a : Nat)) (ha : 1 ≤ a) (hb : a ≤ s.size + 1) (hin : inn s a = false) :
    Calls Try.prog 17 #[.string s, .int .i64 (-(m : Int)), .int .i64 i] w fun e w' => e = oR (fin (bwd s m a)) ∧ w' = w := by
  have C0 := fun W => meant_any s i W hs h1 h2
  rw [ea] at C0
  have C1 := fun W => inner_any s a W hs ha (by omega)
  rw [hin] at C1
  have q1 : ¬ (a : Int) < 1 := by omega
  have q2 : IntKind.i64.wrap ((s.size : Int) + 1) = (s.size : Int) + 1 := by rw [IntKind.wrap_i64]; omega
  have q3 : ¬ (s.size : Int) + 1 < (a : Int) := by omega
  have q4 : (-(m : Int) == 0) = false := by simp; omega
  have q5 : ¬ (0 : Int) < -(m : Int) := by omega
  unfold oR
  go_enter Try.func17, Try.ntmps17
  go_wp2_with (first
    | (go_at_call 25; refine (C0 _).mono ?_; rintro e w1 ⟨rfl, hw1⟩; subst w1)
    | (go_at_call 34; refine (C1 _).mono ?_; rintro e w1 ⟨rfl, hw1⟩; subst w1))
  go_loopw [1, 9] (fun nv av wr => ∃ k p : Nat, nv = .int .i64 (-(k : Int)) ∧ av = .int .i64 (p : Nat) ∧ k ≤ 9223372036854775808 ∧ 1 ≤ p ∧ p ≤ s.size + 1 ∧ Hid (bwd s k p = bwd s m a) ∧ wr = w) (fun _ av _ => (intOf av).toNat)
  case atStart => exact ⟨m, a, rfl, rfl, hm2, ha, hb, rfl, rfl⟩
  case round =>
    obtain ⟨k, p, rfl, rfl, hk, h3, h4, HE, rfl⟩ := hrel
    clear C0 C1 q1 q2 q3 q4 q5 ea hin
    by_cases hk0 : k = 0
    · subst hk0
      have HE2 : Hid (fin (bwd s m a) = ((p : Int), true, 0)) := by show _ = _; rw [← HE.out]; rfl
      go_wp2
      refine wp_loop_rounds 1 ?_
      rw [rounds_succ]
      go_wp2
      refine bodyPost_ret (v := .tuple #[_, _, _]) (by simp [results, Try.results17, go_sem]; exact ⟨rfl, rfl, rfl⟩) rfl ?_
      rw [HE2.out]
      exact ⟨rfl, rfl⟩
    · have hn : -(k : Int) < 0 := by omega
      by_cases hp : 1 < p
      · have hp' : (1 : Int) < (p : Int) := by omega
        have C2 := fun W => back_any s (p - 1) W hs (by omega) (by omega)
        have hle := bk_le s (p - 1)
        have hge := bk_pos s (p - 1) (by omega)
        have w1 : IntKind.i64.wrap ((p : Int) - 1) = ((p - 1 : Nat) : Int) := by rw [IntKind.wrap_i64]; omega
        have w2 : IntKind.i64.wrap (-(k : Int) + 1) = -((k - 1 : Nat) : Int) := by rw [IntKind.wrap_i64]; omega
        have HE2 : Hid (bwd s (k - 1) (bk s (p - 1)) = bwd s m a) := by
          show _ = _
          rw [← HE.out]
          obtain ⟨q, rfl⟩ : ∃ q, k = q + 1 := ⟨k - 1, by omega⟩
          rw [bwd_step hp]; rfl
        go_wp2_with (go_at_call 33; refine (C2 _).mono ?_; rintro e w1 ⟨rfl, hw1⟩; subst w1)
        go_roundw
        case rel => exact ⟨k - 1, bk s (p - 1), rfl, rfl, by omega, hge, by omega, HE2, by first | rfl | trivial⟩
        case measure => simp [intOf]; omega
      · have hp' : ¬ (1 : Int) < (p : Int) := by omega
        have HE2 : Hid (fin (bwd s m a) = (0, false, 0)) := by
          show _ = _
          rw [← HE.out]
          obtain ⟨q, rfl⟩ : ∃ q, k = q + 1 := ⟨k - 1, by omega⟩
          rw [bwd_stop hp, fin_1]
        have hn2 : ¬ (0 : Int) < -(k : Int) := by omega
        have hn3 : (-(k : Int) != 0) = true := by simp; omega
        go_wp2
        refine wp_loop_rounds 1 ?_
        rw [rounds_succ]
        go_wp2
        refine bodyPost_ret (v := .tuple #[_, _, _]) (by simp [results, Try.results17, go_sem]; exact ⟨rfl, rfl, rfl⟩) rfl ?_
        rw [HE2.out]
        exact ⟨rfl, rfl⟩
set_option maxHeartbeats 2000000 in
theorem offset_pos (s : ByteArray) (m : Nat) (i : Int) (w : World) (hs : s.size ≤ 140737488351232) (h1 : -9223372036854775808 ≤ i) (h2 : i ≤ 9223372036854775807) (hm2 : m + 1 ≤ 9223372036854775807)
    (a : Nat) (ea : mt s.size i = (a : Nat)) (ha : 1 ≤ a) (hb : a ≤ s.size + 1) (hin : inn s a = false) :
    Calls Try.prog 17 #[.string s, .int .i64 ((m : Int) + 1), .int .i64 i] w fun e w' => e = oR (fin (fwd s m a)) ∧ w' = w := by
  have C0 := fun W => meant_any s i W hs h1 h2
  rw [ea] at C0
  have C1 := fun W => inner_any s a W hs ha (by omega)
  rw [hin] at C1
  have q1 : ¬ (a : Int) < 1 := by omega
  have q2 : IntKind.i64.wrap ((s.size : Int) + 1) = (s.size : Int) + 1 := by rw [IntKind.wrap_i64]; omega
  have q3 : ¬ (s.size : Int) + 1 < (a : Int) := by omega
  have q4 : ((m : Int) + 1 == 0) = false := by simp; omega
  have q5 : (0 : Int) < (m : Int) + 1 := by omega
  have q6 : IntKind.i64.wrap ((m : Int) + 1 - 1) = (m : Int) := by rw [IntKind.wrap_i64]; omega
  have q7 : ¬ (m : Int) < 0 := by omega
  unfold oR
  go_enter Try.func17, Try.ntmps17
  go_wp2_with (first
    | (go_at_call 25; refine (C0 _).mono ?_; rintro e w1 ⟨rfl, hw1⟩; subst w1)
    | (go_at_call 34; refine (C1 _).mono ?_; rintro e w1 ⟨rfl, hw1⟩; subst w1))
  refine wp_loop_rounds 1 ?_
  rw [rounds_succ]
  go_wp2
  go_loopw [1, 9] (fun nv av wr => ∃ k p : Nat, nv = .int .i64 (k : Nat) ∧ av = .int .i64 (p : Nat) ∧ k ≤ 9223372036854775807 ∧ 1 ≤ p ∧ p ≤ s.size + 1 ∧ Hid (fwd s k p = fwd s m a) ∧ wr = w) (fun _ av _ => s.size + 2 - (intOf av).toNat)
  case atStart => exact ⟨m, a, rfl, rfl, by omega, ha, hb, rfl, rfl⟩
  case round =>
    obtain ⟨k, p, rfl, rfl, hk, h3, h4, HE, rfl⟩ := hrel
    clear C0 C1 q1 q2 q3 q4 q5 q6 q7 ea hin
    by_cases hk0 : k = 0
    · subst hk0
      have HE2 : Hid (fin (fwd s m a) = ((p : Int), true, 0)) := by show _ = _; rw [← HE.out]; rfl
      go_wp2
      refine bodyPost_ret (v := .tuple #[_, _, _]) (by simp [results, Try.results17, go_sem]; exact ⟨rfl, rfl, rfl⟩) rfl ?_
      rw [HE2.out]
      exact ⟨rfl, rfl⟩
    · have hn : 0 < (k : Int) := by omega
      by_cases hp : p ≤ s.size
      · have hp' : (p : Int) ≤ (s.size : Int) := by omega
        have C2 := fun W => on_any s (p + 1) W hs (by omega) (by omega)
        have hle := on_le s (p + 1) (by omega)
        have hge := on_ge s (p + 1)
        have w1 : IntKind.i64.wrap ((p : Int) + 1) = ((p + 1 : Nat) : Int) := by rw [IntKind.wrap_i64]; omega
        have w2 : IntKind.i64.wrap ((k : Int) - 1) = ((k - 1 : Nat) : Int) := by rw [IntKind.wrap_i64]; omega
        have HE2 : Hid (fwd s (k - 1) (on s (p + 1)) = fwd s m a) := by
          show _ = _
          rw [← HE.out]
          obtain ⟨q, rfl⟩ : ∃ q, k = q + 1 := ⟨k - 1, by omega⟩
          rw [fwd_step hp]; rfl
        go_wp2_with (go_at_call 35; refine (C2 _).mono ?_; rintro e w1 ⟨rfl, hw1⟩; subst w1)
        go_roundw
        case rel => exact ⟨k - 1, on s (p + 1), rfl, rfl, by omega, by omega, by omega, HE2, by first | rfl | trivial⟩
        case measure => simp [intOf]; omega
      · have hp' : ¬ (p : Int) ≤ (s.size : Int) := by omega
        have HE2 : Hid (fin (fwd s m a) = (0, false, 0)) := by
          show _ = _
          rw [← HE.out]
          obtain ⟨q, rfl⟩ : ∃ q, k = q + 1 := ⟨k - 1, by omega⟩
          rw [fwd_stop hp, fin_1]
        have hn3 : ((k : Int) != 0) = true := by simp; omega
        go_wp2
        refine bodyPost_ret (v := .tuple #[_, _, _]) (by simp [results, Try.results17, go_sem]; exact ⟨rfl, rfl, rfl⟩) rfl ?_
        rw [HE2.out]
        exact ⟨rfl, rfl⟩
theorem offset_any (s : ByteArray) (n i : Int) (w : World) (hs : s.size ≤ 140737488351232) (h1 : -9223372036854775808 ≤ i) (h2 : i ≤ 9223372036854775807) (h3 : -9223372036854775808 ≤ n) (h4 : n ≤ 9223372036854775807) :
    Calls Try.prog 17 #[.string s, .int .i64 n, .int .i64 i] w fun e w' => e = oR (ofs s n i) ∧ w' = w := by
  have C0 := fun W => meant_any s i W hs h1 h2
  have hmt := mt_le hs h1 h2
  have q2 : IntKind.i64.wrap ((s.size : Int) + 1) = (s.size : Int) + 1 := by rw [IntKind.wrap_i64]; omega
  by_cases hA : mt s.size i < 1 ∨ (s.size : Int) + 1 < mt s.size i
  · have e : ofs s n i = (0, false, 1) := if_pos hA
    rw [e]
    unfold oR
    generalize mt s.size i = A at *
    by_cases hA1 : A < 1
    · go_enter Try.func17, Try.ntmps17
      go_wp2_with (go_at_call 25; refine (C0 _).mono ?_; rintro e w1 ⟨rfl, hw1⟩; subst w1)
      refine bodyPost_ret (v := .tuple #[_, _, _]) (by simp [results, Try.results17, go_sem]; exact ⟨rfl, rfl, rfl⟩) rfl ?_
      exact ⟨rfl, rfl⟩
    · have hA2 : (s.size : Int) + 1 < A := by omega
      go_enter Try.func17, Try.ntmps17
      go_wp2_with (go_at_call 25; refine (C0 _).mono ?_; rintro e w1 ⟨rfl, hw1⟩; subst w1)
      refine bodyPost_ret (v := .tuple #[_, _, _]) (by simp [results, Try.results17, go_sem]; exact ⟨rfl, rfl, rfl⟩) rfl ?_
      exact ⟨rfl, rfl⟩
  · obtain ⟨a, ea⟩ : ∃ a : Nat, mt s.size i = (a : Nat) := ⟨(mt s.size i).toNat, by omega⟩
    have et : (mt s.size i).toNat = a := by omega
    have ha : 1 ≤ a := by omega
    have hb : a ≤ s.size + 1 := by omega
    by_cases hn0 : n = 0
    · subst hn0
      have e : ofs s 0 i = ((bk s a : Int), true, 0) := by unfold ofs; rw [if_neg hA, if_pos rfl, et]
      rw [e]
      unfold oR
      rw [ea] at C0
      have q1 : ¬ (a : Int) < 1 := by omega
      have q3 : ¬ (s.size : Int) + 1 < (a : Int) := by omega
      have C2 := fun W => back_any s a W hs ha hb
      go_enter Try.func17, Try.ntmps17
      go_wp2_with (first
        | (go_at_call 25; refine (C0 _).mono ?_; rintro e w1 ⟨rfl, hw1⟩; subst w1)
        | (go_at_call 33; refine (C2 _).mono ?_; rintro e w1 ⟨rfl, hw1⟩; subst w1))
      refine bodyPost_ret (v := .tuple #[_, _, _]) (by simp [results, Try.results17, go_sem]; exact ⟨rfl, rfl, rfl⟩) rfl ?_
      exact ⟨rfl, rfl⟩
    · cases hin : inn s a with
      | true =>
        have e : ofs s n i = (0, false, 1) := by unfold ofs; rw [if_neg hA, if_neg hn0, et, if_pos hin]
        rw [e]
        unfold oR
        rw [ea] at C0
        have q1 : ¬ (a : Int) < 1 := by omega
        have q3 : ¬ (s.size : Int) + 1 < (a : Int) := by omega
        have q4 : (n == 0) = false := by simpa using hn0
        have C1 := fun W => inner_any s a W hs ha (by omega)
        rw [hin] at C1
        go_enter Try.func17, Try.ntmps17
        go_wp2_with (first
          | (go_at_call 25; refine (C0 _).mono ?_; rintro e w1 ⟨rfl, hw1⟩; subst w1)
          | (go_at_call 34; refine (C1 _).mono ?_; rintro e w1 ⟨rfl, hw1⟩; subst w1))
        refine bodyPost_ret (v := .tuple #[_, _, _]) (by simp [results, Try.results17, go_sem]; exact ⟨rfl, rfl, rfl⟩) rfl ?_
        exact ⟨rfl, rfl⟩
      | false =>
        by_cases hp : 0 < n
        · have e : ofs s n i = fin (fwd s (n - 1).toNat a) := by unfold ofs; rw [if_neg hA, if_neg hn0, et, if_neg (by rw [hin]; simp), if_pos hp]
          rw [e]
          have q := offset_pos s (n - 1).toNat i w hs h1 h2 (by omega) a ea ha hb hin
          rw [show (((n - 1).toNat : Nat) : Int) + 1 = n by omega] at q
          exact q
        · have e : ofs s n i = fin (bwd s (-n).toNat a) := by unfold ofs; rw [if_neg hA, if_neg hn0, et, if_neg (by rw [hin]; simp), if_neg hp]
          rw [e]
          have q := offset_neg s (-n).toNat i w hs h1 h2 (by omega) (by omega) a ea ha hb hin
          rw [show -(((-n).toNat : Nat) : Int) = n by omega] at q
          exact q
end Go.Proofs.Ytbgbhogcjaodkaa
