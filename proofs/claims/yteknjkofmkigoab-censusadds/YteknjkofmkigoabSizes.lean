/- The sizes of the two parts: what the counts say, the walk of Sizes, the answers that stand ahead of each law. -/
import Derived.Test.YteknjkofmkigoabTwice
namespace Go.Proofs.Yteknjkofmkigoab
open Go.RowKit

theorem getD_range (f : Nat → Int) (i n : Nat) (h : i < n) : ((List.range n).map f).getD i 0 = f i := by simp [List.getD, h]
theorem pre_cnt (l : List Int) (k : Nat) (hk : k ≤ 17) : pre (cntL l) k = (l.countP (fun x => decide (0 ≤ lg x ∧ lg x < k)) : Nat) := by
  induction k with
  | zero =>
    have : l.countP (fun x => decide (0 ≤ lg x ∧ lg x < ((0 : Nat) : Int))) = 0 := by
      rw [List.countP_eq_zero]; intro x _; simp
    rw [this]; simp [pre]
  | succ k ih =>
    rw [pre_succ _ _ (by rw [cntL_len]; omega), ih (by omega), cntL_get _ _ (by omega)]
    unfold cnt
    clear ih
    induction l with
    | nil => simp
    | cons x l il =>
      simp only [List.countP_cons, decide_eq_true_eq]
      have e : ((0 ≤ lg x ∧ lg x < ((k + 1 : Nat) : Int)) ↔ (0 ≤ lg x ∧ lg x < (k : Int)) ∨ lg x = (k : Int)) := by omega
      by_cases h1 : 0 ≤ lg x ∧ lg x < (k : Int)
      · rw [if_pos h1, if_neg (by omega), if_pos (e.2 (.inl h1))]; omega
      · by_cases h2 : lg x = (k : Int)
        · rw [if_neg h1, if_pos h2, if_pos (e.2 (.inr h2))]; omega
        · rw [if_neg h1, if_neg h2, if_neg (by omega)]; omega
theorem pre_le (l : List Int) (k : Nat) (hk : k ≤ 17) : 0 ≤ pre (cntL l) k ∧ pre (cntL l) k ≤ l.length := by
  rw [pre_cnt l k hk]
  have := List.countP_le_length (p := fun x => decide (0 ≤ lg x ∧ lg x < (k : Int))) (l := l)
  omega
theorem chN_cases (c : List Int) (n : Nat) : (chA c n = 0 ∧ chN c n = 0) ∨ ∃ k, k < n ∧ chA c n = 2 ^ k ∧ chN c n = pre c (k + 1) := by
  induction n with
  | zero => exact .inl ⟨rfl, rfl⟩
  | succ n ih =>
    rw [chA_succ, chN_succ]
    by_cases h : (2 : Int) ^ n < 2 * pre c (n + 1)
    · rw [if_pos h, if_pos h]
      exact .inr ⟨n, by omega, rfl, rfl⟩
    · rw [if_neg h, if_neg h]
      rcases ih with ih | ⟨k, hk, h1, h2⟩
      · exact .inl ih
      · exact .inr ⟨k, by omega, h1, h2⟩
theorem chN_le (l : List Int) : 0 ≤ chN (cntL l) 17 ∧ chN (cntL l) 17 ≤ l.length := by
  rcases chN_cases (cntL l) 17 with ⟨_, h⟩ | ⟨k, hk, _, h⟩
  · rw [h]; omega
  · rw [h]; exact pre_le l (k + 1) (by omega)
theorem okC_cnt (l : List Int) (h : l.length ≤ 1000000) : okC (cntL l) = true := by
  simp only [okC, Bool.and_eq_true, beq_iff_eq, List.all_eq_true, decide_eq_true_eq]
  refine ⟨cntL_len l, fun x hx => ?_⟩
  simp only [cntL, List.mem_map] at hx
  obtain ⟨i, _, rfl⟩ := hx
  have := cnt_bound l i
  omega

/-- What Sizes answers. -/
def rest (l : List Int) : Int := l.length - chN (cntL l) 17
def szE (l : List Int) (o : Int) : Int := if o < 0 then 1 else if ¬ l.Nodup then 2 else if 65536 < o ∨ 65536 < o + rest l then 14 else 0
def szA (l : List Int) (o : Int) : Int := if szE l o = 0 then chA (cntL l) 17 else 0
def szH (l : List Int) (o : Int) : Int := if szE l o = 0 then up2 (o + rest l) else 0

theorem Own17.ints' {G : Nat} {w : World} {l : List Int} (h : Own17 G w (cnt l)) : Ints w.heap.size w (.slice (some ⟨G, 0, none⟩) 17 17) (cntL l) := by
  refine Own17.ints ⟨fun j hj => ?_, h.2⟩ (cntL_len l)
  show _ = some (Value.int .i64 ((cntL l).getD j 0))
  rw [cntL_get l j hj]; exact h.1 j hj

set_option maxHeartbeats 1000000 in
theorem sizes_any (l : List Int) (o : Int) (v : Value) (w : World) (h : Ints w.heap.size w v l) (hf : Fit l) (hlen : l.length ≤ 1000000) :
    Calls Try.prog 33 #[v, .int .i64 o] w fun e w' => e = .returned (.tuple #[.int .i64 (szA l o), .int .i64 (szH l o), .int .i64 (szE l o)]) ∧ Below w.heap.size w w' := by
  by_cases h0 : o < 0
  · have e1 : szE l o = 1 := by unfold szE; rw [if_pos h0]
    have e2 : szA l o = 0 := by unfold szA; rw [e1, if_neg (by omega)]
    have e3 : szH l o = 0 := by unfold szH; rw [e1, if_neg (by omega)]
    rw [e1, e2, e3]
    obtain ⟨a, cap, rfl, hcap, h⟩ := h
    clear h hf e1 e2 e3
    generalize l.length = L at *
    go_enter Try.func33, Try.ntmps33
    go_wp2
    go_ret3
    exact ⟨rfl, Below.refl _ _⟩
  have C1 := twice_any l v w h hlen
  by_cases hn : l.Nodup
  · have hd : decide (¬ l.Nodup) = false := by simpa using hn
    rw [hd] at C1
    have hok := okC_cnt l hlen
    have hN := chN_le l
    have C2 := fun w1 (hb : Below w.heap.size w w1) => count_any l v w1 (h.go hb) hf hlen
    have C3 : ∀ w2 G, Own17 G w2 (cnt l) → Calls Try.prog 12 #[.slice (some ⟨G, 0, none⟩) 17 17] w2 fun e w' => e = .returned (.tuple #[.int .i64 (chA (cntL l) 17), .int .i64 (chN (cntL l) 17), .int .i64 0]) ∧ w' = w2 := fun w2 G q => choose_ok (cntL l) _ w2 q.ints' hok
    have e1 : szE l o = if 65536 < o ∨ 65536 < o + rest l then 14 else 0 := by unfold szE; rw [if_neg h0, if_neg (by simpa using hn)]
    unfold szA szH
    rw [e1]
    unfold rest
    obtain ⟨a, cap, rfl, hcap, h⟩ := h
    clear h hf hcap hn hok hd e1
    generalize l.length = L at *
    generalize chN (cntL l) 17 = N at *
    generalize chA (cntL l) 17 = A at *
    by_cases hb1 : 65536 < o
    · have e : (if 65536 < o ∨ 65536 < o + ((L : Int) - N) then (14 : Int) else 0) = 14 := if_pos (.inl hb1)
      rw [e, if_neg (by omega), if_neg (by omega)]
      clear e
      go_enter Try.func33, Try.ntmps33
      go_wp2_with fail
      refine C1.mono ?_
      rintro e w1 ⟨rfl, hb⟩
      go_wp2_with fail
      refine (C2 w1 hb).mono ?_
      rintro e w2 ⟨rfl, ho, hb2⟩
      go_wp2_with fail
      refine (C3 _ _ ho).mono ?_
      rintro e w3 ⟨rfl, rfl⟩
      clear ho C1 C2 C3
      go_wp2_with fail
      go_ret3
      exact ⟨rfl, bthen hb hb.size hb2⟩
    · by_cases hb2 : 65536 < o + (L - N)
      · have e : (if 65536 < o ∨ 65536 < o + ((L : Int) - N) then (14 : Int) else 0) = 14 := if_pos (.inr hb2)
        rw [e, if_neg (by omega), if_neg (by omega)]
        clear e
        go_enter Try.func33, Try.ntmps33
        go_wp2_with fail
        refine C1.mono ?_
        rintro e w1 ⟨rfl, hb⟩
        go_wp2_with fail
        refine (C2 w1 hb).mono ?_
        rintro e w2 ⟨rfl, ho, hb2⟩
        go_wp2_with fail
        refine (C3 _ _ ho).mono ?_
        rintro e w3 ⟨rfl, rfl⟩
        clear ho C1 C2 C3
        go_wp2_with fail
        go_ret3
        exact ⟨rfl, bthen hb hb.size hb2⟩
      · have e : (if 65536 < o ∨ 65536 < o + ((L : Int) - N) then (14 : Int) else 0) = 0 := if_neg (by omega)
        rw [e, if_pos rfl, if_pos rfl]
        clear e
        have C4 := fun W => ceil_any (o + (L - N)) W (by omega) (by omega)
        generalize up2 (o + (L - N)) = H at *
        go_enter Try.func33, Try.ntmps33
        go_wp2_with fail
        refine C1.mono ?_
        rintro e w1 ⟨rfl, hb⟩
        go_wp2_with fail
        refine (C2 w1 hb).mono ?_
        rintro e w2 ⟨rfl, ho, hb2⟩
        go_wp2_with fail
        refine (C3 _ _ ho).mono ?_
        rintro e w3 ⟨rfl, rfl⟩
        clear ho C1 C2 C3
        go_wp2_with (go_at_call 42; refine (C4 _).mono ?_; rintro e w' ⟨rfl, rfl⟩)
        go_ret3
        exact ⟨rfl, bthen hb hb.size hb2⟩
  · have hd : decide (¬ l.Nodup) = true := by simpa using hn
    rw [hd] at C1
    have e1 : szE l o = 2 := by unfold szE; rw [if_neg h0, if_pos hn]
    have e2 : szA l o = 0 := by unfold szA; rw [e1, if_neg (by omega)]
    have e3 : szH l o = 0 := by unfold szH; rw [e1, if_neg (by omega)]
    rw [e1, e2, e3]
    obtain ⟨a, cap, rfl, hcap, h⟩ := h
    clear h hf e1 e2 e3
    generalize l.length = L at *
    go_enter Try.func33, Try.ntmps33
    go_wp2_with fail
    refine C1.mono ?_
    rintro e w1 ⟨rfl, hb⟩
    go_wp2_with fail
    go_ret3
    exact ⟨rfl, hb⟩

end Go.Proofs.Yteknjkofmkigoab
