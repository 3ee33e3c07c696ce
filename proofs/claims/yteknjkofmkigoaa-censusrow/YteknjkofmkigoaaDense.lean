/- How many keys an array takes, and the walk of the law CensusDense. -/
import Derived.Test.YteknjkofmkigoaaFix
namespace Go.Proofs.Yteknjkofmkigoaa
open Go.RowKit

/-- How many are from 1 to a. -/
def wi (l : List Int) (a : Int) : Int := (l.countP (fun x => decide (1 ≤ x ∧ x ≤ a)) : Nat)
theorem wi_bound (l : List Int) (a : Int) : 0 ≤ wi l a ∧ wi l a ≤ l.length := by
  have := List.countP_le_length (p := fun x => decide (1 ≤ x ∧ x ≤ a)) (l := l)
  unfold wi
  omega
theorem wi_succ (l : List Int) (k : Nat) (a : Int) (h : k < l.length) : wi (l.take (k + 1)) a = wi (l.take k) a + (if 1 ≤ l.getD k 0 ∧ l.getD k 0 ≤ a then 1 else 0) := by
  rw [take_snoc l k h]
  unfold wi
  rw [List.countP_append, List.countP_singleton]
  by_cases hq : 1 ≤ l.getD k 0 ∧ l.getD k 0 ≤ a
  · rw [if_pos hq, if_pos (by simpa using hq)]; rfl
  · rw [if_neg hq, if_neg (by simpa using hq)]; rfl

set_option maxHeartbeats 1000000 in
theorem within_any (l : List Int) (a : Int) (v : Value) (w : World) (h : Ints w.heap.size w v l) (hlen : l.length ≤ 1000000) :
    Calls Try.prog 20 #[v, .int .i64 a] w fun e w' => e = .returned (.int .i64 (wi l a)) ∧ w' = w := by
  obtain ⟨ad, cap, rfl, hcap, h⟩ := h
  have HC : Hid _ := h
  have HL : Hid (l ≠ [] ↔ 0 < l.length) := by
    show _ ↔ _
    cases l <;> simp
  have HS : Hid (∀ k, k < l.length → wi (l.take (k + 1)) a = wi (l.take k) a + (if 1 ≤ l.getD k 0 ∧ l.getD k 0 ≤ a then 1 else 0)) := fun k hk => wi_succ l k a hk
  have HB : Hid (∀ k, k ≤ l.length → 0 ≤ wi (l.take k) a ∧ wi (l.take k) a ≤ 1000000) := fun k hk => by
    have := wi_bound (l.take k) a
    rw [List.length_take] at this
    omega
  have HE : Hid (l.take l.length = l) := List.take_length
  clear h hcap
  obtain ⟨L, hL⟩ : ∃ L, l.length = L := ⟨_, rfl⟩
  rw [hL] at HC HL HS HB HE hlen ⊢
  clear hL
  go_enter Try.func20, Try.ntmps20
  go_wp2
  go_loop [5, 6] (fun c i => ∃ k : Nat, i = .int .i64 k ∧ k ≤ L ∧ ∃ z : Int, c = .int .i64 z ∧ Hid (z = wi (l.take k) a)) (fun _ i => L - (intOf i).toNat)
  case atStart => exact ⟨0, rfl, by omega, 0, rfl, rfl⟩
  case round =>
    obtain ⟨k, rfl, hk, z, rfl, HZ⟩ := hrel
    by_cases hlt : k < L
    · have hlt' : (k : Int) < (L : Int) := by omega
      obtain ⟨g, off, rfl, hg, hc⟩ := HC.out (HL.out.2 (by omega))
      have c1 := hc k hlt
      have hz := HB.out k hk
      rw [← HZ.out] at hz
      obtain ⟨hz0, hz1⟩ := hz
      have HY : Hid (1 ≤ l.getD k 0 ∧ l.getD k 0 ≤ a → z + 1 = wi (l.take (k + 1)) a) := fun q => by rw [HS.out k hlt, if_pos q, HZ.out]
      have HN : Hid (¬ (1 ≤ l.getD k 0 ∧ l.getD k 0 ≤ a) → z = wi (l.take (k + 1)) a) := fun q => by rw [HS.out k hlt, if_neg q, HZ.out]; omega
      clear hc HC HZ HB HS
      generalize l.getD k 0 = x at *
      by_cases h1 : 1 ≤ x
      · by_cases h2 : x ≤ a
        · have HR : Hid _ := HY.out ⟨h1, h2⟩
          clear HY HN
          go_wp2
          go_round
          case rel => exact ⟨k + 1, by go_num, by omega, _, rfl, HR⟩
          case measure => simp [intOf]; omega
        · have HR : Hid _ := HN.out (fun q => h2 q.2)
          clear HY HN
          go_wp2
          go_round
          case rel => exact ⟨k + 1, by go_num, by omega, _, rfl, HR⟩
          case measure => simp [intOf]; omega
      · have HR : Hid _ := HN.out (fun q => h1 q.1)
        clear HY HN
        go_wp2
        go_round
        case rel => exact ⟨k + 1, by go_num, by omega, _, rfl, HR⟩
        case measure => simp [intOf]; omega
    · obtain rfl : k = L := by omega
      rw [HE.out] at HZ
      go_wp2
      go_ret
      exact ⟨ret1 HZ.out, rfl⟩

theorem lg_le (x : Int) (i : Nat) (h1 : x ≤ 9223372036854775807) : (1 ≤ x ∧ x ≤ 2 ^ i) ↔ (0 ≤ lg x ∧ lg x < ((i + 1 : Nat) : Int)) := by
  have hp := pow_int i
  by_cases h0 : 1 ≤ x
  · obtain ⟨a, b, c⟩ := lgN_spec x h0 h1
    rw [lg_pos x h0]
    constructor
    · intro h
      refine ⟨by omega, ?_⟩
      rcases b with b | b
      · omega
      · rcases Nat.lt_or_ge (lgN x) (i + 1) with q | q
        · omega
        · have := Nat.pow_le_pow_right (n := 2) (by omega) (show i ≤ lgN x - 1 by omega)
          omega
    · intro h
      have := Nat.pow_le_pow_right (n := 2) (by omega) (show lgN x ≤ i by omega)
      omega
  · have : lg x = -1 := by unfold lg; rw [if_pos (by omega)]
    omega
theorem Fit.mem {l : List Int} (h : Fit l) {x : Int} (hx : x ∈ l) : -9223372036854775808 ≤ x ∧ x ≤ 9223372036854775807 := by
  obtain ⟨i, hi, rfl⟩ := List.getElem_of_mem hx
  have := h i hi
  rwa [List.getD, List.getElem?_eq_getElem hi] at this
theorem wi_pre (l : List Int) (hf : Fit l) (i : Nat) (hi : i ≤ 16) : wi l (2 ^ i) = pre (cntL l) (i + 1) := by
  rw [pre_cnt l (i + 1) (by omega)]
  unfold wi
  congr 1
  apply List.countP_congr
  intro x hx
  simp only [decide_eq_true_eq]
  exact lg_le x i (hf.mem hx).2
theorem chA_max (c : List Int) (n j : Nat) (hj : j < n) (h : chA c n < 2 ^ j) : ¬ (2 : Int) ^ j < 2 * pre c (j + 1) := by
  induction n with
  | zero => omega
  | succ n ih =>
    rw [chA_succ] at h
    by_cases hq : (2 : Int) ^ n < 2 * pre c (n + 1)
    · rw [if_pos hq] at h
      by_cases hjn : j = n
      · subst hjn; omega
      · have := Nat.pow_le_pow_right (n := 2) (by omega) (show j ≤ n by omega)
        have h1 := pow_int j
        have h2 := pow_int n
        omega
    · rw [if_neg hq] at h
      by_cases hjn : j = n
      · subst hjn; exact hq
      · exact ih (by omega) h

/-- What the law asks of the array: a, with so many of 1 to a. -/
structure Dense (l : List Int) (A N : Int) : Prop where
  a0 : 0 ≤ A
  a1 : A ≤ 65536
  n : wi l A = N
  half : ¬ A = 0 → A < 2 * N
  most : ∀ j, j ≤ 16 → A < 2 ^ j → 2 * wi l (2 ^ j) ≤ 2 ^ j
theorem dense_of (l : List Int) (hf : Fit l) : Dense l (chA (cntL l) 17) (chN (cntL l) 17) := by
  have hm : ∀ j, j ≤ 16 → chA (cntL l) 17 < 2 ^ j → 2 * wi l (2 ^ j) ≤ 2 ^ j := fun j hj h => by
    have := chA_max (cntL l) 17 j (by omega) h
    rw [wi_pre l hf j hj]
    omega
  have hh : chA (cntL l) 17 ≠ 0 → chA (cntL l) 17 < 2 * chN (cntL l) 17 := by
    generalize 17 = n
    induction n with
    | zero => intro h; exact absurd rfl h
    | succ n ih =>
      rw [chA_succ, chN_succ]
      by_cases hq : (2 : Int) ^ n < 2 * pre (cntL l) (n + 1)
      · rw [if_pos hq, if_pos hq]; intro _; exact hq
      · rw [if_neg hq, if_neg hq]; exact ih
  rcases chN_cases (cntL l) 17 with ⟨h1, h2⟩ | ⟨k, hk, h1, h2⟩
  · refine ⟨by omega, by omega, ?_, hh, hm⟩
    rw [h1, h2]
    unfold wi
    have : l.countP (fun x => decide (1 ≤ x ∧ x ≤ 0)) = 0 := by
      rw [List.countP_eq_zero]; intro x _; simp; omega
    rw [this]; rfl
  · have := pow16 k (by omega)
    exact ⟨by omega, by omega, by rw [h1, h2]; exact wi_pre l hf k (by omega), hh, hm⟩

theorem up2_facts (n : Int) (h0 : 0 ≤ n) (h1 : n ≤ 65536) : (n = 0 ∧ up2 n = 0) ∨ (0 < n ∧ n ≤ up2 n ∧ up2 n / 2 < n ∧ 1 ≤ up2 n ∧ up2 n ≤ 1073741824) := by
  unfold up2
  by_cases hz : n = 0
  · rw [if_pos hz]; exact .inl ⟨hz, rfl⟩
  · rw [if_neg hz]
    obtain ⟨_, h2, h3, h4, h5, _⟩ := cl_facts n (by omega) (by omega)
    exact .inr ⟨by omega, h2, h3, h4, h5⟩

/-- The three ways in which Sizes refuses. -/
theorem szE_cases (l : List Int) (o : Int) : (szE l o = 0 ∧ 0 ≤ o ∧ o + rest l ≤ 65536 ∧ szA l o = chA (cntL l) 17 ∧ szH l o = up2 (o + rest l)) ∨
    (szA l o = 0 ∧ szH l o = 0 ∧ ((o < 0 ∧ szE l o = 1) ∨ (0 ≤ o ∧ szE l o = 2) ∨ (0 ≤ o ∧ szE l o = 14))) := by
  unfold szA szH
  by_cases h0 : o < 0
  · have e : szE l o = 1 := by unfold szE; rw [if_pos h0]
    rw [e]
    exact .inr ⟨rfl, rfl, .inl ⟨h0, rfl⟩⟩
  · by_cases hn : ¬ l.Nodup
    · have e : szE l o = 2 := by unfold szE; rw [if_neg h0, if_pos hn]
      rw [e]
      exact .inr ⟨rfl, rfl, .inr (.inl ⟨by omega, rfl⟩)⟩
    · by_cases hb : 65536 < o ∨ 65536 < o + rest l
      · have e : szE l o = 14 := by unfold szE; rw [if_neg h0, if_neg hn, if_pos hb]
        rw [e]
        exact .inr ⟨rfl, rfl, .inr (.inr ⟨by omega, rfl⟩)⟩
      · have e : szE l o = 0 := by unfold szE; rw [if_neg h0, if_neg hn, if_neg hb]
        rw [e, if_pos rfl, if_pos rfl]
        exact .inl ⟨rfl, by omega, by omega, rfl, rfl⟩

theorem cmpA {A : Int} (_ : 0 ≤ A) (P : Int) : A < P ∨ ¬ A < P := Classical.em _

set_option maxHeartbeats 2000000 in
/-- The law CensusDense. -/
theorem dense_walk (l : List Int) (o : Int) (v : Value) (w : World) (h : Ints w.heap.size w v l) (hf : Fit l) (hbig : l.length ≤ 9223372036854775807) :
    Calls Try.prog 6 #[v, .int .i64 o] w fun e w' => e = .returned (.bool true) ∧ Below w.heap.size w w' := by
  have hlen := fewLen l
  have hf3 := hf.take 3000
  have D1 := fun W (hb : Below w.heap.size w W) => few_any l v W (h.go hb) hbig
  clear h hbig hf
  generalize l.take 3000 = m at *
  go_enter Try.func6, Try.ntmps6
  go_wp2_with fail
  refine (fixed_any w).mono ?_
  rintro e w1 ⟨rfl, b1⟩
  go_wp2_with fail
  refine (D1 _ b1).mono ?_
  rintro e w2 ⟨v2, rfl, rfl, i2⟩
  have C1 := sizes_any m o v2 w2 i2 hf3 (by omega)
  have C2 : ∀ a W, Below w2.heap.size w2 W → Calls Try.prog 20 #[v2, .int .i64 a] W fun e w' => e = .returned (.int .i64 (wi m a)) ∧ w' = W := fun a W hb => within_any m a v2 W (i2.go hb) (by omega)
  have hcs := szE_cases m o
  have hd := dense_of m hf3
  have hN := chN_le m
  have hb' := fun a => wi_bound m a
  unfold rest at hcs
  obtain ⟨a2, cap2, rfl, hcap2, _⟩ := i2
  generalize szE m o = E at *
  generalize szA m o = A at *
  generalize szH m o = H at *
  clear D1 hf3
  rcases hcs with ⟨rfl, ho, hr, hA, hH⟩ | ⟨rfl, rfl, hE⟩
  · rw [← hA] at hd
    generalize chN (cntL m) 17 = N at *
    clear hA
    have HD : Hid _ := hd
    have HL : Hid _ := hlen
    have HW : Hid _ := hb'
    have hu := up2_facts (o + (m.length - N)) (by omega) hr
    rw [← hH] at hu
    have HU : Hid _ := hu
    have hA0 := hd.a0
    have hA1 := hd.a1
    have C3 := fun W hb => C2 A W hb
    rw [hd.n] at C3
    have hN0 := hN.1
    have hN1 : N ≤ 3000 := by omega
    have hH1 : 0 ≤ H ∧ H ≤ 1073741824 := by omega
    obtain ⟨hH2, hH3⟩ := hH1
    have hhalf := hd.half
    have hL3 : (m.length : Int) ≤ 3000 := by omega
    have hNL : N ≤ (m.length : Int) := hN.2
    clear hN hd hb' hu hH hcap2
    generalize m.length = L at *
    go_wp2_with fail
    refine C1.mono ?_
    rintro e w3 ⟨rfl, b3⟩
    have C4 := C3 w3 b3
    have C5 := fun a => C2 a w3 b3
    have b4 := bthen b1 b1.size b3
    clear C1 C2 C3 b1 b3
    have hr0 : 0 ≤ (L : Int) - N + o := by omega
    have HF : Hid ((L : Int) - N + o = 0 ∧ H = 0 ∨ 0 < (L : Int) - N + o ∧ (L : Int) - N + o ≤ H ∧ H / 2 < (L : Int) - N + o) := by
      rw [show (L : Int) - N + o = o + ((L : Int) - N) by omega]
      rcases HU.out with ⟨q1, q2⟩ | ⟨q1, q2, q3, _⟩
      · exact .inl ⟨q1, q2⟩
      · exact .inr ⟨q1, q2, q3⟩
    have hr1 : (L : Int) - N + o ≤ 65536 := by omega
    clear HU hr
    by_cases hAz : A = 0
    · subst hAz
      go_wp2_with fail
      go_loopw [8] (fun p wr => ∃ k : Nat, p = .int .i64 (2 ^ k) ∧ k ≤ 17 ∧ wr = w3) (fun p _ => (65537 - intOf p).toNat)
      case atStart => exact ⟨0, rfl, by omega, rfl⟩
      case round =>
        obtain ⟨k, rfl, hk, rfl⟩ := hrel
        by_cases hk16 : k ≤ 16
        · obtain ⟨hp0, hp1⟩ := pow16 k hk16
          have hm := HD.out.most k hk16
          obtain ⟨hw0, hw1⟩ := HW.out (2 ^ k)
          have C6 := C5 (2 ^ k)
          have HS : Hid (∀ P, (2 : Int) ^ k = P → P * 2 = 2 ^ (k + 1)) := fun P hP => by rw [Int.pow_succ, hP]
          obtain ⟨P, hP⟩ : ∃ P, (2 : Int) ^ k = P := ⟨_, rfl⟩
          have HS2 : Hid _ := HS.out P hP
          rw [hP] at hp0 hp1 hm hw0 hw1 C6 ⊢
          clear hP HS C5 C4
          generalize wi m P = x at *
          rcases cmpA hA0 P with hq | hq
          · have hx : 2 * x ≤ P := hm hq
            clear hm
            go_wp2_with (go_at_call 20; refine C6.mono ?_; rintro e w' ⟨rfl, rfl⟩)
            go_roundw
            case rel => exact ⟨k + 1, congrArg (Value.int .i64) HS2.out, by omega, trivial⟩
            case measure => simp [intOf]; omega
          · clear hm C6
            go_wp2_with fail
            go_roundw
            case rel => exact ⟨k + 1, congrArg (Value.int .i64) HS2.out, by omega, trivial⟩
            case measure => simp [intOf]; omega
        · obtain rfl : k = 17 := by omega
          rw [show (2 : Int) ^ 17 = 131072 by decide]
          rcases HF.out with ⟨q1, rfl⟩ | ⟨q1, q2, q3⟩
          · go_wp2_with (go_at_call 20; refine C4.mono ?_; rintro e w' ⟨rfl, rfl⟩)
            go_ret
            exact ⟨rfl, b4⟩
          · have q4 : ((L : Int) - N + o == 0) = false := by simp; omega
            by_cases hH1 : H = 1
            · subst hH1
              go_wp2_with (go_at_call 20; refine C4.mono ?_; rintro e w' ⟨rfl, rfl⟩)
              go_ret
              exact ⟨rfl, b4⟩
            · have hH1' : (H == 1) = false := by simpa using hH1
              go_wp2_with (go_at_call 20; refine C4.mono ?_; rintro e w' ⟨rfl, rfl⟩)
              go_ret
              exact ⟨rfl, b4⟩
    · have hh := hhalf hAz
      have hAz' : (A == 0) = false := by simpa using hAz
      have hAz'' : (A != 0) = true := by simpa using hAz
      go_wp2_with (go_at_call 20; refine C4.mono ?_; rintro e w' ⟨rfl, rfl⟩)
      go_loopw [8] (fun p wr => ∃ k : Nat, p = .int .i64 (2 ^ k) ∧ k ≤ 17 ∧ wr = w') (fun p _ => (65537 - intOf p).toNat)
      case atStart => exact ⟨0, rfl, by omega, rfl⟩
      case round =>
        obtain ⟨k, rfl, hk, rfl⟩ := hrel
        by_cases hk16 : k ≤ 16
        · obtain ⟨hp0, hp1⟩ := pow16 k hk16
          have hm := HD.out.most k hk16
          obtain ⟨hw0, hw1⟩ := HW.out (2 ^ k)
          have C6 := C5 (2 ^ k)
          have HS : Hid (∀ P, (2 : Int) ^ k = P → P * 2 = 2 ^ (k + 1)) := fun P hP => by rw [Int.pow_succ, hP]
          obtain ⟨P, hP⟩ : ∃ P, (2 : Int) ^ k = P := ⟨_, rfl⟩
          have HS2 : Hid _ := HS.out P hP
          rw [hP] at hp0 hp1 hm hw0 hw1 C6 ⊢
          clear hP HS C5 C4
          generalize wi m P = x at *
          rcases cmpA hA0 P with hq | hq
          · have hx : 2 * x ≤ P := hm hq
            clear hm
            go_wp2_with (go_at_call 20; refine C6.mono ?_; rintro e w' ⟨rfl, rfl⟩)
            go_roundw
            case rel => exact ⟨k + 1, congrArg (Value.int .i64) HS2.out, by omega, trivial⟩
            case measure => simp [intOf]; omega
          · clear hm C6
            go_wp2_with fail
            go_roundw
            case rel => exact ⟨k + 1, congrArg (Value.int .i64) HS2.out, by omega, trivial⟩
            case measure => simp [intOf]; omega
        · obtain rfl : k = 17 := by omega
          rw [show (2 : Int) ^ 17 = 131072 by decide]
          rcases HF.out with ⟨q1, rfl⟩ | ⟨q1, q2, q3⟩
          · go_wp2_with (go_at_call 20; refine C4.mono ?_; rintro e w' ⟨rfl, rfl⟩)
            go_ret
            exact ⟨rfl, b4⟩
          · have q4 : ((L : Int) - N + o == 0) = false := by simp; omega
            by_cases hH1 : H = 1
            · subst hH1
              go_wp2_with (go_at_call 20; refine C4.mono ?_; rintro e w' ⟨rfl, rfl⟩)
              go_ret
              exact ⟨rfl, b4⟩
            · have hH1' : (H == 1) = false := by simpa using hH1
              go_wp2_with (go_at_call 20; refine C4.mono ?_; rintro e w' ⟨rfl, rfl⟩)
              go_ret
              exact ⟨rfl, b4⟩
  · go_wp2_with fail
    refine C1.mono ?_
    rintro e w3 ⟨rfl, b3⟩
    clear C1 C2 hd hN hb'
    generalize m.length = L at *
    rcases hE with ⟨ho, rfl⟩ | ⟨ho, rfl⟩ | ⟨ho, rfl⟩
    all_goals
      go_wp2_with fail
      go_ret
      first | exact ⟨rfl, bthen b1 b1.size b3⟩ | exact ⟨retB (by simp; omega), bthen b1 b1.size b3⟩

end Go.Proofs.Yteknjkofmkigoaa
