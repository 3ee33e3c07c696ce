/- The walks of Offset, the program's and the reference's. -/
import Derived.Test.YtbgbhogcjaodkabCg00
namespace Go.Proofs.Ytbgbhogcjaodkab
open Go.RowKit

/-- n runes on, or back: how many are left, and the place. -/
def fwd (s : ByteArray) : Nat → Nat → Nat × Nat
  | 0, a => (0, a)
  | n + 1, a => if a ≤ s.size then fwd s n (on s (a + 1)) else (n + 1, a)
def bwd (s : ByteArray) : Nat → Nat → Nat × Nat
  | 0, a => (0, a)
  | n + 1, a => if 1 < a then bwd s n (bk s (a - 1)) else (n + 1, a)
def fin (r : Nat × Nat) : Int × Bool × Int := if r.1 = 0 then ((r.2 : Int), true, 0) else (0, false, 0)
def ofs (s : ByteArray) (n i : Int) : Int × Bool × Int :=
  if mt s.size i < 1 ∨ (s.size : Int) + 1 < mt s.size i then (0, false, 1)
  else if n = 0 then ((bk s (mt s.size i).toNat : Int), true, 0)
  else if inn s (mt s.size i).toNat = true then (0, false, 1)
  else if 0 < n then fin (fwd s (n - 1).toNat (mt s.size i).toNat) else fin (bwd s (-n).toNat (mt s.size i).toNat)
theorem fin_0 (a : Nat) : fin (0, a) = ((a : Int), true, 0) := rfl
theorem fin_1 (m a : Nat) : fin (m + 1, a) = (0, false, 0) := by unfold fin; rw [if_neg (by simp)]
def oR (r : Int × Bool × Int) : Ending := .returned (.tuple #[.int .i64 r.1, .bool r.2.1, .int .i64 r.2.2])
theorem bwd_step {s : ByteArray} {m a : Nat} (h : 1 < a) : bwd s (m + 1) a = bwd s m (bk s (a - 1)) := by rw [bwd, if_pos h]
theorem bwd_stop {s : ByteArray} {m a : Nat} (h : ¬ 1 < a) : bwd s (m + 1) a = (m + 1, a) := by rw [bwd, if_neg h]
theorem fwd_step {s : ByteArray} {m a : Nat} (h : a ≤ s.size) : fwd s (m + 1) a = fwd s m (on s (a + 1)) := by rw [fwd, if_pos h]
theorem fwd_stop {s : ByteArray} {m a : Nat} (h : ¬ a ≤ s.size) : fwd s (m + 1) a = (m + 1, a) := by rw [fwd, if_neg h]
set_option maxHeartbeats 2000000 in
theorem offset_neg (s : ByteArray) (m : Nat) (i : Int) (w : World) (hs : s.size ≤ 140737488351232) (h1 : -9223372036854775808 ≤ i) (h2 : i ≤ 9223372036854775807) (hm : 1 ≤ m) (hm2 : m ≤ 9223372036854775808)
    (a : Nat) (ea : mt s.size i = (a : Nat)) (ha : 1 ≤ a) (hb : a ≤ s.size + 1) (hin : inn s a = false) :
    Calls Try.prog 10 #[.string s, .int .i64 (-(m : Int)), .int .i64 i] w fun e w' => e = oR (fin (bwd s m a)) ∧ w' = w := by
  have C0 := fun W => meant_any s i W hs h1 h2
  rw [ea] at C0
  have C1 := fun W => inner_any s a W hs ha (by omega)
  rw [hin] at C1
  have q1 : ¬ (a : Int) < 1 := by omega
  have q2 : IntKind.i64.wrap ((s.size : Int) + 1) = (s.size : Int) + 1 := by rw [IntKind.wrap_i64]; omega
  have q3 : ¬ (s.size : Int) + 1 < (a : Int) := by omega
  have q4 : (-(m : Int) == 0) = false := by simp; omega
  have q5 : ¬ (0 : Int) < -(m : Int) := by omega
  unfold oR
  go_enter Try.func10, Try.ntmps10
  go_wp2_with (first
    | (go_at_call 14; refine (C0 _).mono ?_; rintro e w1 ⟨rfl, hw1⟩; subst w1)
    | (go_at_call 19; refine (C1 _).mono ?_; rintro e w1 ⟨rfl, hw1⟩; subst w1))
  go_loopw [1, 9] (fun nv av wr => ∃ k p : Nat, nv = .int .i64 (-(k : Int)) ∧ av = .int .i64 (p : Nat) ∧ k ≤ 9223372036854775808 ∧ 1 ≤ p ∧ p ≤ s.size + 1 ∧ Hid (bwd s k p = bwd s m a) ∧ wr = w) (fun _ av _ => (intOf av).toNat)
  case atStart => exact ⟨m, a, rfl, rfl, hm2, ha, hb, rfl, rfl⟩
  case round =>
    obtain ⟨k, p, rfl, rfl, hk, h3, h4, HE, rfl⟩ := hrel
    clear C0 C1 q1 q2 q3 q4 q5 ea hin
    by_cases hk0 : k = 0
    · subst hk0
      have HE2 : Hid (fin (bwd s m a) = ((p : Int), true, 0)) := by show _ = _; rw [← HE.out]; rfl
      go_wp2
      refine wp_loop_rounds 1 ?_
      rw [rounds_succ]
      go_wp2
      refine bodyPost_ret (v := .tuple #[_, _, _]) (by simp [results, Try.results10, go_sem]; exact ⟨rfl, rfl, rfl⟩) rfl ?_
      rw [HE2.out]
      exact ⟨rfl, rfl⟩
    · have hn : -(k : Int) < 0 := by omega
      by_cases hp : 1 < p
      · have hp' : (1 : Int) < (p : Int) := by omega
        have C2 := fun W => back_any s (p - 1) W hs (by omega) (by omega)
        have hle := bk_le s (p - 1)
        have hge := bk_pos s (p - 1) (by omega)
        have w1 : IntKind.i64.wrap ((p : Int) - 1) = ((p - 1 : Nat) : Int) := by rw [IntKind.wrap_i64]; omega
        have w2 : IntKind.i64.wrap (-(k : Int) + 1) = -((k - 1 : Nat) : Int) := by rw [IntKind.wrap_i64]; omega
        have HE2 : Hid (bwd s (k - 1) (bk s (p - 1)) = bwd s m a) := by
          show _ = _
          rw [← HE.out]
          obtain ⟨q, rfl⟩ : ∃ q, k = q + 1 := ⟨k - 1, by omega⟩
          rw [bwd_step hp]; rfl
        go_wp2_with (go_at_call 18; refine (C2 _).mono ?_; rintro e w1 ⟨rfl, hw1⟩; subst w1)
        go_roundw
        case rel => exact ⟨k - 1, bk s (p - 1), rfl, rfl, by omega, hge, by omega, HE2, by first | rfl | trivial⟩
        case measure => simp [intOf]; omega
      · have hp' : ¬ (1 : Int) < (p : Int) := by omega
        have HE2 : Hid (fin (bwd s m a) = (0, false, 0)) := by
          show _ = _
          rw [← HE.out]
          obtain ⟨q, rfl⟩ : ∃ q, k = q + 1 := ⟨k - 1, by omega⟩
          rw [bwd_stop hp, fin_1]
        have hn2 : ¬ (0 : Int) < -(k : Int) := by omega
        have hn3 : (-(k : Int) != 0) = true := by simp; omega
        go_wp2
        refine wp_loop_rounds 1 ?_
        rw [rounds_succ]
        go_wp2
        refine bodyPost_ret (v := .tuple #[_, _, _]) (by simp [results, Try.results10, go_sem]; exact ⟨rfl, rfl, rfl⟩) rfl ?_
        rw [HE2.out]
        exact ⟨rfl, rfl⟩
set_option maxHeartbeats 2000000 in
theorem offset_pos (s : ByteArray) (m : Nat) (i : Int) (w : World) (hs : s.size ≤ 140737488351232) (h1 : -9223372036854775808 ≤ i) (h2 : i ≤ 9223372036854775807) (hm2 : m + 1 ≤ 9223372036854775807)
    (a : Nat) (ea : mt s.size i = (a : Nat)) (ha : 1 ≤ a) (hb : a ≤ s.size + 1) (hin : inn s a = false) :
    Calls Try.prog 10 #[.string s, .int .i64 ((m : Int) + 1), .int .i64 i] w fun e w' => e = oR (fin (fwd s m a)) ∧ w' = w := by
  have C0 := fun W => meant_any s i W hs h1 h2
  rw [ea] at C0
  have C1 := fun W => inner_any s a W hs ha (by omega)
  rw [hin] at C1
  have q1 : ¬ (a : Int) < 1 := by omega
  have q2 : IntKind.i64.wrap ((s.size : Int) + 1) = (s.size : Int) + 1 := by rw [IntKind.wrap_i64]; omega
  have q3 : ¬ (s.size : Int) + 1 < (a : Int) := by omega
  have q4 : ((m : Int) + 1 == 0) = false := by simp; omega
  have q5 : (0 : Int) < (m : Int) + 1 := by omega
  have q6 : IntKind.i64.wrap ((m : Int) + 1 - 1) = (m : Int) := by rw [IntKind.wrap_i64]; omega
  have q7 : ¬ (m : Int) < 0 := by omega
  unfold oR
  go_enter Try.func10, Try.ntmps10
  go_wp2_with (first
    | (go_at_call 14; refine (C0 _).mono ?_; rintro e w1 ⟨rfl, hw1⟩; subst w1)
    | (go_at_call 19; refine (C1 _).mono ?_; rintro e w1 ⟨rfl, hw1⟩; subst w1))
  refine wp_loop_rounds 1 ?_
  rw [rounds_succ]
  go_wp2
  go_loopw [1, 9] (fun nv av wr => ∃ k p : Nat, nv = .int .i64 (k : Nat) ∧ av = .int .i64 (p : Nat) ∧ k ≤ 9223372036854775807 ∧ 1 ≤ p ∧ p ≤ s.size + 1 ∧ Hid (fwd s k p = fwd s m a) ∧ wr = w) (fun _ av _ => s.size + 2 - (intOf av).toNat)
  case atStart => exact ⟨m, a, rfl, rfl, by omega, ha, hb, rfl, rfl⟩
  case round =>
    obtain ⟨k, p, rfl, rfl, hk, h3, h4, HE, rfl⟩ := hrel
    clear C0 C1 q1 q2 q3 q4 q5 q6 q7 ea hin
    by_cases hk0 : k = 0
    · subst hk0
      have HE2 : Hid (fin (fwd s m a) = ((p : Int), true, 0)) := by show _ = _; rw [← HE.out]; rfl
      go_wp2
      refine bodyPost_ret (v := .tuple #[_, _, _]) (by simp [results, Try.results10, go_sem]; exact ⟨rfl, rfl, rfl⟩) rfl ?_
      rw [HE2.out]
      exact ⟨rfl, rfl⟩
    · have hn : 0 < (k : Int) := by omega
      by_cases hp : p ≤ s.size
      · have hp' : (p : Int) ≤ (s.size : Int) := by omega
        have C2 := fun W => on_any s (p + 1) W hs (by omega) (by omega)
        have hle := on_le s (p + 1) (by omega)
        have hge := on_ge s (p + 1)
        have w1 : IntKind.i64.wrap ((p : Int) + 1) = ((p + 1 : Nat) : Int) := by rw [IntKind.wrap_i64]; omega
        have w2 : IntKind.i64.wrap ((k : Int) - 1) = ((k - 1 : Nat) : Int) := by rw [IntKind.wrap_i64]; omega
        have HE2 : Hid (fwd s (k - 1) (on s (p + 1)) = fwd s m a) := by
          show _ = _
          rw [← HE.out]
          obtain ⟨q, rfl⟩ : ∃ q, k = q + 1 := ⟨k - 1, by omega⟩
          rw [fwd_step hp]; rfl
        go_wp2_with (go_at_call 20; refine (C2 _).mono ?_; rintro e w1 ⟨rfl, hw1⟩; subst w1)
        go_roundw
        case rel => exact ⟨k - 1, on s (p + 1), rfl, rfl, by omega, by omega, by omega, HE2, by first | rfl | trivial⟩
        case measure => simp [intOf]; omega
      · have hp' : ¬ (p : Int) ≤ (s.size : Int) := by omega
        have HE2 : Hid (fin (fwd s m a) = (0, false, 0)) := by
          show _ = _
          rw [← HE.out]
          obtain ⟨q, rfl⟩ : ∃ q, k = q + 1 := ⟨k - 1, by omega⟩
          rw [fwd_stop hp, fin_1]
        have hn3 : ((k : Int) != 0) = true := by simp; omega
        go_wp2
        refine bodyPost_ret (v := .tuple #[_, _, _]) (by simp [results, Try.results10, go_sem]; exact ⟨rfl, rfl, rfl⟩) rfl ?_
        rw [HE2.out]
        exact ⟨rfl, rfl⟩
theorem offset_any (s : ByteArray) (n i : Int) (w : World) (hs : s.size ≤ 140737488351232) (h1 : -9223372036854775808 ≤ i) (h2 : i ≤ 9223372036854775807) (h3 : -9223372036854775808 ≤ n) (h4 : n ≤ 9223372036854775807) :
    Calls Try.prog 10 #[.string s, .int .i64 n, .int .i64 i] w fun e w' => e = oR (ofs s n i) ∧ w' = w := by
  have C0 := fun W => meant_any s i W hs h1 h2
  have hmt := mt_le hs h1 h2
  have q2 : IntKind.i64.wrap ((s.size : Int) + 1) = (s.size : Int) + 1 := by rw [IntKind.wrap_i64]; omega
  by_cases hA : mt s.size i < 1 ∨ (s.size : Int) + 1 < mt s.size i
  · have e : ofs s n i = (0, false, 1) := if_pos hA
    rw [e]
    unfold oR
    generalize mt s.size i = A at *
    by_cases hA1 : A < 1
    · go_enter Try.func10, Try.ntmps10
      go_wp2_with (go_at_call 14; refine (C0 _).mono ?_; rintro e w1 ⟨rfl, hw1⟩; subst w1)
      refine bodyPost_ret (v := .tuple #[_, _, _]) (by simp [results, Try.results10, go_sem]; exact ⟨rfl, rfl, rfl⟩) rfl ?_
      exact ⟨rfl, rfl⟩
    · have hA2 : (s.size : Int) + 1 < A := by omega
      go_enter Try.func10, Try.ntmps10
      go_wp2_with (go_at_call 14; refine (C0 _).mono ?_; rintro e w1 ⟨rfl, hw1⟩; subst w1)
      refine bodyPost_ret (v := .tuple #[_, _, _]) (by simp [results, Try.results10, go_sem]; exact ⟨rfl, rfl, rfl⟩) rfl ?_
      exact ⟨rfl, rfl⟩
  · obtain ⟨a, ea⟩ : ∃ a : Nat, mt s.size i = (a : Nat) := ⟨(mt s.size i).toNat, by omega⟩
    have et : (mt s.size i).toNat = a := by omega
    have ha : 1 ≤ a := by omega
    have hb : a ≤ s.size + 1 := by omega
    by_cases hn0 : n = 0
    · subst hn0
      have e : ofs s 0 i = ((bk s a : Int), true, 0) := by unfold ofs; rw [if_neg hA, if_pos rfl, et]
      rw [e]
      unfold oR
      rw [ea] at C0
      have q1 : ¬ (a : Int) < 1 := by omega
      have q3 : ¬ (s.size : Int) + 1 < (a : Int) := by omega
      have C2 := fun W => back_any s a W hs ha hb
      go_enter Try.func10, Try.ntmps10
      go_wp2_with (first
        | (go_at_call 14; refine (C0 _).mono ?_; rintro e w1 ⟨rfl, hw1⟩; subst w1)
        | (go_at_call 18; refine (C2 _).mono ?_; rintro e w1 ⟨rfl, hw1⟩; subst w1))
      refine bodyPost_ret (v := .tuple #[_, _, _]) (by simp [results, Try.results10, go_sem]; exact ⟨rfl, rfl, rfl⟩) rfl ?_
      exact ⟨rfl, rfl⟩
    · cases hin : inn s a with
      | true =>
        have e : ofs s n i = (0, false, 1) := by unfold ofs; rw [if_neg hA, if_neg hn0, et, if_pos hin]
        rw [e]
        unfold oR
        rw [ea] at C0
        have q1 : ¬ (a : Int) < 1 := by omega
        have q3 : ¬ (s.size : Int) + 1 < (a : Int) := by omega
        have q4 : (n == 0) = false := by simpa using hn0
        have C1 := fun W => inner_any s a W hs ha (by omega)
        rw [hin] at C1
        go_enter Try.func10, Try.ntmps10
        go_wp2_with (first
          | (go_at_call 14; refine (C0 _).mono ?_; rintro e w1 ⟨rfl, hw1⟩; subst w1)
          | (go_at_call 19; refine (C1 _).mono ?_; rintro e w1 ⟨rfl, hw1⟩; subst w1))
        refine bodyPost_ret (v := .tuple #[_, _, _]) (by simp [results, Try.results10, go_sem]; exact ⟨rfl, rfl, rfl⟩) rfl ?_
        exact ⟨rfl, rfl⟩
      | false =>
        by_cases hp : 0 < n
        · have e : ofs s n i = fin (fwd s (n - 1).toNat a) := by unfold ofs; rw [if_neg hA, if_neg hn0, et, if_neg (by rw [hin]; simp), if_pos hp]
          rw [e]
          have q := offset_pos s (n - 1).toNat i w hs h1 h2 (by omega) a ea ha hb hin
          rw [show (((n - 1).toNat : Nat) : Int) + 1 = n by omega] at q
          exact q
        · have e : ofs s n i = fin (bwd s (-n).toNat a) := by unfold ofs; rw [if_neg hA, if_neg hn0, et, if_neg (by rw [hin]; simp), if_neg hp]
          rw [e]
          have q := offset_neg s (-n).toNat i w hs h1 h2 (by omega) (by omega) a ea ha hb hin
          rw [show -(((-n).toNat : Nat) : Int) = n by omega] at q
          exact q
end Go.Proofs.Ytbgbhogcjaodkab

/- The walk of Decode: the first rune of a text from a byte on. -/
namespace Go.Proofs.Ytbgbhogcjaodkab
open Go.RowKit

theorem get_extract (s : ByteArray) (a i : Nat) : (s.extract a s.size).get! i = s.get! (a + i) := by
  rw [get_data, get_data, Lib.extract_to_end]
  simp [List.getD, List.getElem?_drop]
theorem decode_extract (s : ByteArray) (a p : Nat) : Utf8.decode (s.extract a s.size) p = Utf8.decode s (a + p) := by
  rw [Lib.decode_at, Lib.decode_at, get_extract, get_extract, get_extract, get_extract]
  have h : (s.extract a s.size).size - p = s.size - (a + p) := by rw [ByteArray.size_extract]; omega
  rw [h]
  simp only [Nat.add_assoc]
theorem wd_extract (s : ByteArray) (a p : Nat) : wd (s.extract a s.size) p = wd s (a + p) := by unfold wd; rw [decode_extract]
theorem rn_extract (s : ByteArray) (a p : Nat) : rn (s.extract a s.size) p = rn s (a + p) := by unfold rn; rw [decode_extract]

theorem enters36 : ∀ args w, (callFunc 24 args).run Try.prog w = .ok (.enter 24 args) w := enters_of Try.func24 (by kernel_rfl) rfl

set_option maxHeartbeats 400000 in
theorem dec_step (b f : Nat) (W : World) (n x y z : Int) (u0 u1 u2 : Value) (hb : b < W.heap.size) (hf : f < W.heap.size) (hc : W.cell? ⟨b, 0, none⟩ = some (.int .i64 n))
    (h0 : W.cell? ⟨f, 0, none⟩ = some u0) (h1 : W.cell? ⟨f, 1, none⟩ = some u1) (h2 : W.cell? ⟨f, 2, none⟩ = some u2)
    (f0 : W.frozen? ⟨f, 0, none⟩ = false) (f1 : W.frozen? ⟨f, 1, none⟩ = false) (f2 : W.frozen? ⟨f, 2, none⟩ = false) :
    Calls Try.prog 24 #[.agg #[.int .i64 x, .int .i64 y, .int .i64 z], .pointer (some ⟨b, 0, none⟩), .pointer (some ⟨f, 0, none⟩)] W fun e W' => e = .returned (.bool false) ∧
      ∃ o, W' = (((W.setCell ⟨f, 0, none⟩ (.int .i64 n)).setCell ⟨f, 1, none⟩ (.int .i64 y)).setCell ⟨f, 2, none⟩ (.int .i64 z)).alloc o := by
  have hc1 := alloc_cell hb hc
  have k0 := alloc_cell hf h0
  have k1 := alloc_cell hf h1
  have k2 := alloc_cell hf h2
  have g0 := alloc_frozen hf f0
  have g1 := alloc_frozen hf f1
  have g2 := alloc_frozen hf f2
  go_enter Try.func24, Try.ntmps24
  go_wp2
  go_ret
  exact ⟨rfl, _, rfl⟩

/-- Cells that lie ready, and a new iterator behind them. -/
theorem Own.start {B : Nat} {w W : World} {cs : List (Nat × Nat × Value)} (hc : ∀ c ∈ cs, W.cell? ⟨c.1, c.2.1, none⟩ = some c.2.2 ∧ W.frozen? ⟨c.1, c.2.1, none⟩ = false ∧ B ≤ c.1 ∧ c.1 < W.heap.size)
    (hb : Below B w W) (hB : B ≤ W.heap.size) (s : ByteArray) : Own B W.heap.size w (W.alloc (.stringIter s 0)) cs where
  cell c h := alloc_cell (hc c h).2.2.2 (hc c h).1 _
  free c h := alloc_frozen (hc c h).2.2.2 (hc c h).2.1 _
  low c h := by have := hc c h; simp; omega
  below := hb.alloc hB _
  iter := by simp; omega

/-- What Decode's going through leaves in its variable. -/
def fst3 (n : Int) : List Rn → Int × Int × Int
  | [] => (0, 0, 0)
  | r :: _ => (n, r.2.1, r.2.2)
def decCells (B : Nat) (n : Int) (done : List Rn) : List (Nat × Nat × Value) :=
  [(B, 0, .int .i64 n), (B + 1, 0, .int .i64 0), (B + 1, 1, .int .i64 0), (B + 1, 2, .int .i64 0), (B + 2, 0, .int .i64 (fst3 n done).1), (B + 2, 1, .int .i64 (fst3 n done).2.1), (B + 2, 2, .int .i64 (fst3 n done).2.2)]

/-- The world in which Decode goes through the text. -/
def decW (w : World) (n : Int) : World := ((w.alloc (.cells #[.int .i64 n] 3)).alloc (.cells #[.int .i64 0, .int .i64 0, .int .i64 0] 45)).alloc (.cells #[.int .i64 0, .int .i64 0, .int .i64 0] 45)
theorem decW_size (w : World) (n : Int) : (decW w n).heap.size = w.heap.size + 3 := by simp [decW]

theorem decW_own (w : World) (n : Int) (s : ByteArray) : Own w.heap.size (w.heap.size + 3) w ((decW w n).alloc (.stringIter s 0)) (decCells w.heap.size n []) := by
  have key : ∀ c ∈ decCells w.heap.size n [], (decW w n).cell? ⟨c.1, c.2.1, none⟩ = some c.2.2 ∧ (decW w n).frozen? ⟨c.1, c.2.1, none⟩ = false ∧ w.heap.size ≤ c.1 ∧ c.1 < (decW w n).heap.size := by
    intro c hc
    rw [decW_size]
    have n0 := new_cell w [.int .i64 n] 3 0 _ rfl
    have e1 : (w.alloc (.cells #[.int .i64 n] 3)).heap.size = w.heap.size + 1 := by simp
    have n1 := fun j v h => new_cell (w.alloc (.cells #[.int .i64 n] 3)) [.int .i64 0, .int .i64 0, .int .i64 0] 45 j v h
    rw [e1] at n1
    have e2 : ((w.alloc (.cells #[.int .i64 n] 3)).alloc (.cells #[.int .i64 0, .int .i64 0, .int .i64 0] 45)).heap.size = w.heap.size + 2 := by simp
    have n2 := fun j v h => new_cell ((w.alloc (.cells #[.int .i64 n] 3)).alloc (.cells #[.int .i64 0, .int .i64 0, .int .i64 0] 45)) [.int .i64 0, .int .i64 0, .int .i64 0] 45 j v h
    rw [e2] at n2
    simp only [decCells, fst3, List.mem_cons, List.not_mem_nil, or_false] at hc
    rcases hc with rfl | rfl | rfl | rfl | rfl | rfl | rfl
    · exact ⟨alloc_cell (by simp <;> omega) (alloc_cell (by simp <;> omega) n0.1 _) _, alloc_frozen (by simp <;> omega) (alloc_frozen (by simp <;> omega) n0.2 _) _, by simp <;> omega⟩
    · exact ⟨alloc_cell (by simp <;> omega) (n1 0 _ rfl).1 _, alloc_frozen (by simp <;> omega) (n1 0 _ rfl).2 _, by simp <;> omega⟩
    · exact ⟨alloc_cell (by simp <;> omega) (n1 1 _ rfl).1 _, alloc_frozen (by simp <;> omega) (n1 1 _ rfl).2 _, by simp <;> omega⟩
    · exact ⟨alloc_cell (by simp <;> omega) (n1 2 _ rfl).1 _, alloc_frozen (by simp <;> omega) (n1 2 _ rfl).2 _, by simp <;> omega⟩
    · exact ⟨(n2 0 _ rfl).1, (n2 0 _ rfl).2, by simp <;> omega⟩
    · exact ⟨(n2 1 _ rfl).1, (n2 1 _ rfl).2, by simp <;> omega⟩
    · exact ⟨(n2 2 _ rfl).1, (n2 2 _ rfl).2, by simp <;> omega⟩
  have h := Own.start key ((((Below.refl _ w).alloc (Nat.le_refl _) _).alloc (by simp <;> omega) _).alloc (by simp <;> omega) _) (by rw [decW_size]; omega) s
  rw [decW_size] at h
  exact h

set_option maxHeartbeats 1000000 in
theorem decode_each (x : ByteArray) (n : Int) (w : World) (hx : 0 < x.size) (hxs : x.size ≤ 9223372036854775807) :
    Calls Try.prog 23 #[.string x, .func (.func 24) #[] #[.pointer (some ⟨w.heap.size, 0, none⟩), .pointer (some ⟨w.heap.size + 2, 0, none⟩)]] (decW w n) fun e w' => e = .returned (.tuple #[]) ∧
      Own w.heap.size (w.heap.size + 3) w w' (decCells w.heap.size n [(0, wd x 0, rn x 0)]) := by
  have HE := each_any x 24 #[.pointer (some ⟨w.heap.size, 0, none⟩), .pointer (some ⟨w.heap.size + 2, 0, none⟩)] enters36 (decW w n) hxs (fun _ => false)
    (fun done W => done.length ≤ 1 ∧ Own w.heap.size (w.heap.size + 3) w W (decCells w.heap.size n done))
    ⟨by simp, decW_own w n x⟩
    (fun done W p p' h _ => ⟨h.1, by have := h.2.iterAt x p'; rw [decW_size]; exact this⟩)
    (fun done r l W he hg h _ => by
      have hd : done = [] := by rcases hg with h | h; exact h; cases h
      subst hd
      obtain ⟨_, h⟩ := h
      have hm : ∀ c, c ∈ decCells w.heap.size n [] → c ∈ decCells w.heap.size n [] := fun _ h => h
      have i0 : (w.heap.size, 0, Value.int .i64 n) ∈ decCells w.heap.size n [] := by simp [decCells]
      have i4 : (w.heap.size + 2, 0, Value.int .i64 0) ∈ decCells w.heap.size n [] := by simp [decCells, fst3]
      have i5 : (w.heap.size + 2, 1, Value.int .i64 0) ∈ decCells w.heap.size n [] := by simp [decCells, fst3]
      have i6 : (w.heap.size + 2, 2, Value.int .i64 0) ∈ decCells w.heap.size n [] := by simp [decCells, fst3]
      have hit := h.iter.2
      refine (dec_step w.heap.size (w.heap.size + 2) W n r.1 r.2.1 r.2.2 _ _ _ (h.low _ i0).2.2 (h.low _ i4).2.2 (h.cell _ i0) (h.cell _ i4) (h.cell _ i5) (h.cell _ i6) (h.free _ i4) (h.free _ i5) (h.free _ i6)).mono fun e W' ⟨he, o, hW⟩ => ?_
      subst hW
      refine ⟨he, ⟨by simp, ?_⟩, ?_⟩
      · have s1 := h.set (w.heap.size + 2) 0 i4 (.int .i64 n)
        have s2 := s1.set (w.heap.size + 2) 1 (v := .int .i64 0) (by simp [decCells, fst3]) (.int .i64 r.2.1)
        have s3 := (s2.set (w.heap.size + 2) 2 (v := .int .i64 0) (by simp [decCells, fst3]) (.int .i64 r.2.2)).alloc o
        simpa [decCells, fst3] using s3
      · rw [decW_size, iter_alloc (by simp; omega), iter_set (by omega), iter_set (by omega), iter_set (by omega)])
  rw [rest_at x 0 hx] at HE
  simp only [runTo, Bool.false_eq_true, if_false, List.nil_append] at HE
  exact HE.mono fun e w' h => ⟨h.1, h.2.2⟩

set_option maxHeartbeats 1000000 in
theorem decode_no (s : ByteArray) (n : Int) (w : World) (h : n < 0 ∨ (s.size : Int) ≤ n) : Calls Try.prog 17 #[.string s, .int .i64 n] w fun e w' => e = .returned (.tuple #[.agg #[.int .i64 0, .int .i64 0, .int .i64 0], .int .i64 1]) ∧ Below w.heap.size w w' := by
  rcases h with h | h
  · go_enter Try.func17, Try.ntmps17
    go_wp2
    exact bodyPost_ret (v := .tuple #[.agg #[.int .i64 0, .int .i64 0, .int .i64 0], .int .i64 1]) (by simp [results, Try.results17, go_sem]) rfl ⟨rfl, ((Below.refl _ _).alloc (Nat.le_refl _) _).alloc (by simp) _⟩
  · have h0 : ¬ n < 0 := by omega
    go_enter Try.func17, Try.ntmps17
    go_wp2
    exact bodyPost_ret (v := .tuple #[.agg #[.int .i64 0, .int .i64 0, .int .i64 0], .int .i64 1]) (by simp [results, Try.results17, go_sem]) rfl ⟨rfl, ((Below.refl _ _).alloc (Nat.le_refl _) _).alloc (by simp) _⟩

set_option maxHeartbeats 1000000 in
theorem decode_yes (s : ByteArray) (n : Nat) (w : World) (h : n < s.size) (hs : s.size ≤ 9223372036854775807) : Calls Try.prog 17 #[.string s, .int .i64 n] w fun e w' => e = .returned (.tuple #[.agg #[.int .i64 n, .int .i64 (wd s n), .int .i64 (rn s n)], .int .i64 0]) ∧ Below w.heap.size w w' := by
  have hz : (s.extract n s.size).size = s.size - n := by rw [ByteArray.size_extract]; omega
  have HE := decode_each (s.extract n s.size) n w (by omega) (by omega)
  rw [wd_extract, rn_extract] at HE
  simp only [Nat.add_zero] at HE
  clear hz
  unfold decW at HE
  go_enter Try.func17, Try.ntmps17
  go_wp2_with (go_at_call 23; refine HE.mono ?_; rintro e W ⟨rfl, hO⟩; have g0 := hO.cell _ (show (w.heap.size + 2, 0, Value.int .i64 n) ∈ _ by simp [decCells, fst3]); have g1 := hO.cell _ (show (w.heap.size + 2, 1, Value.int .i64 (wd s n)) ∈ _ by simp [decCells, fst3]); have g2 := hO.cell _ (show (w.heap.size + 2, 2, Value.int .i64 (rn s n)) ∈ _ by simp [decCells, fst3]); have j0 := hO.cell _ (show (w.heap.size + 1, 0, Value.int .i64 0) ∈ _ by simp [decCells]); have j1 := hO.cell _ (show (w.heap.size + 1, 1, Value.int .i64 0) ∈ _ by simp [decCells]); have j2 := hO.cell _ (show (w.heap.size + 1, 2, Value.int .i64 0) ∈ _ by simp [decCells]); have k0 := hO.free _ (show (w.heap.size + 1, 0, Value.int .i64 0) ∈ _ by simp [decCells]); have k1 := hO.free _ (show (w.heap.size + 1, 1, Value.int .i64 0) ∈ _ by simp [decCells]); have k2 := hO.free _ (show (w.heap.size + 1, 2, Value.int .i64 0) ∈ _ by simp [decCells]))
  refine bodyPost_ret (v := .tuple #[.agg #[.int .i64 n, .int .i64 (wd s n), .int .i64 (rn s n)], .int .i64 0]) (by simp [results, Try.results17, go_sem, j0, j1, j2]) rfl ⟨rfl, ?_⟩
  exact ((hO.below.setCell (by simp) _).setCell (by simp) _).setCell (by simp) _

#print axioms decode_yes
end Go.Proofs.Ytbgbhogcjaodkab

/- The walks of invalid and between; what the iterator reads and keeps. -/
namespace Go.Proofs.Ytbgbhogcjaodkab
open Go.RowKit

/-- An invalid byte? -/
def bdB (s : ByteArray) (p : Nat) : Bool := decide (rn s p = 65533 ∧ wd s p = 1)
theorem b1 (w : World) (o : Obj) : Below w.heap.size w (w.alloc o) := (Below.refl _ w).alloc (Nat.le_refl _) o
theorem bthen {w w1 w2 : World} {N : Nat} (h : Below N w w1) (hN : N ≤ w1.heap.size) (k : Below w1.heap.size w1 w2) : Below N w w2 := h.trans (k.mono hN)
set_option maxHeartbeats 1000000 in
theorem invalid_any (s : ByteArray) (p : Nat) (w : World) (hs : s.size ≤ 140737488351232) (hp : p < s.size) : Calls Try.prog 16 #[.string s, .int .i64 ((p : Int) + 1), .int .i32 (rn s p)] w fun e w' => e = .returned (.bool (bdB s p)) ∧ Below w.heap.size w w' := by
  have hrl := rn_le s p
  by_cases h : rn s p = 65533
  · have w1 : IntKind.i64.wrap ((p : Int) + 1 - 1) = (p : Int) := by rw [IntKind.wrap_i64]; omega
    have C := fun W => decode_yes s p W hp (by omega)
    have hw := wd_pos s p
    have hwl := wd_le s p hp
    have e : bdB s p = ((wd s p : Int) == 1) := by
      unfold bdB
      rw [Bool.eq_iff_iff, decide_eq_true_eq]; simp [h]; omega
    rw [e, h]
    rw [h] at C
    generalize wd s p = D at *
    go_enter Try.func16, Try.ntmps16
    go_wp2_with (go_at_call 17; refine (C _).mono ?_; rintro e w1 ⟨rfl, hb1⟩)
    go_ret
    exact ⟨rfl, bthen hb1 hb1.size (by first | exact b1 _ _ | exact (b1 _ _).setCell (by simp) _ | exact (((b1 _ _).setCell (by simp) _).setCell (by simp) _).setCell (by simp) _)⟩
  · have e : bdB s p = false := by unfold bdB; simp [h]
    have h' : ((rn s p : Int) != 65533) = true := by simp; omega
    rw [e]
    go_enter Try.func16, Try.ntmps16
    go_wp2
    go_ret
    exact ⟨rfl, Below.refl _ _⟩
theorem between_any (s : ByteArray) (a b : Int) (w : World) : Calls Try.prog 15 #[.string s, .int .i64 a, .int .i64 b] w fun e w' => e = .returned (.func (.func 22) #[] #[.pointer (some ⟨w.heap.size + 1, 0, none⟩), .pointer (some ⟨w.heap.size + 2, 0, none⟩), .pointer (some ⟨w.heap.size, 0, none⟩)]) ∧ w' = ((w.alloc (.cells #[.string s] 9)).alloc (.cells #[.int .i64 a] 3)).alloc (.cells #[.int .i64 b] 3) := by
  go_enter Try.func15, Try.ntmps15
  go_wp2
  go_ret
  exact ⟨by simp, rfl⟩
/-- What a call leaves: all blocks of No, as they were. -/
structure Keep (No : Nat → Prop) (w w' : World) : Prop where
  os : w'.os = w.os
  tape : w'.tape = w.tape
  output : w'.output = w.output
  size : w.heap.size ≤ w'.heap.size
  block : ∀ g, g < w.heap.size → No g → w'.heap[g]? = w.heap[g]?
theorem Keep.refl (No : Nat → Prop) (w : World) : Keep No w w := ⟨rfl, rfl, rfl, Nat.le_refl _, fun _ _ _ => rfl⟩
theorem Keep.trans {No : Nat → Prop} {w w1 w2 : World} (h : Keep No w w1) (k : Keep No w1 w2) : Keep No w w2 :=
  ⟨k.os.trans h.os, k.tape.trans h.tape, k.output.trans h.output, Nat.le_trans h.size k.size, fun g hg hn => (k.block g (Nat.lt_of_lt_of_le hg h.size) hn).trans (h.block g hg hn)⟩
theorem Keep.drew {No : Nat → Prop} {w w' : World} (h : Keep No w w') : Keep No w w'.drew := ⟨h.os, h.tape, h.output, h.size, h.block⟩
theorem Keep.alloc {No : Nat → Prop} {w w1 : World} (h : Keep No w w1) (o : Obj) : Keep No w (w1.alloc o) :=
  h.trans ⟨rfl, rfl, rfl, by simp, fun g hg _ => Below.heap_alloc _ _ _ hg⟩
theorem Keep.set {No : Nat → Prop} {w w1 : World} (h : Keep No w w1) {p : Addr} (hp : ¬ No p.block) (v : Value) : Keep No w (w1.setCell p v) :=
  h.trans ⟨rfl, rfl, rfl, by simp [World.setCell], fun g _ hn => Below.heap_setCell _ _ _ _ (fun e => hp (e ▸ hn))⟩
theorem Keep.of {No : Nat → Prop} {w w1 : World} (k : Below w.heap.size w w1) : Keep No w w1 := ⟨k.os, k.tape, k.output, k.size, fun g hg _ => k.block g hg⟩
theorem Keep.sub {No No' : Nat → Prop} {w w' : World} (h : Keep No w w') (hn : ∀ g, No' g → No g) : Keep No' w w' := ⟨h.os, h.tape, h.output, h.size, fun g hg q => h.block g hg (hn g q)⟩
theorem Keep.below {N : Nat} {No : Nat → Prop} {w w' : World} (h : Keep No w w') (hN : N ≤ w.heap.size) (hn : ∀ g, g < N → No g) : Below N w w' :=
  ⟨h.os, h.tape, h.output, h.size, fun g hg => h.block g (by omega) (hn g hg)⟩
/-- The runes from place a on that begin at place b or ahead. -/
def bw (s : ByteArray) (a : Nat) (b : Int) : List Rn := (rest s a).takeWhile (fun r => decide ((r.1 : Int) + 1 ≤ b))
theorem bw_at {s : ByteArray} {p : Nat} {b : Int} (h : p < s.size) (hb : (p : Int) + 1 ≤ b) : bw s p b = (p, wd s p, rn s p) :: bw s (p + wd s p) b := by
  unfold bw; rw [rest_at s p h, List.takeWhile_cons, if_pos (by simpa using hb)]
theorem bw_stop {s : ByteArray} {p : Nat} {b : Int} (hb : ¬ (p : Int) + 1 ≤ b) : bw s p b = [] := by
  unfold bw
  by_cases h : p < s.size
  · rw [rest_at s p h, List.takeWhile_cons, if_neg (by simpa using hb)]
  · rw [rest_end s p h]; rfl
theorem bw_end {s : ByteArray} {p : Nat} {b : Int} (h : ¬ p < s.size) : bw s p b = [] := by unfold bw; rw [rest_end s p h]; rfl
end Go.Proofs.Ytbgbhogcjaodkab
