/- Plain facts on newlines (no program in it): line and column by the bytes and by the runes. -/
import Derived.Test.YtoecfpedpibfiaaPlace
namespace Go.Proofs.Ytoecfpedpibfiaa

theorem decodeN_nl (n b0 b1 b2 b3 : Nat) (h0 : b0 < 256) (h1 : b1 < 256) (h2 : b2 < 256) (h3 : b3 < 256) :
    ((Lib.decodeN n b0 b1 b2 b3).1 = 10 ↔ b0 = 10) ∧ ((Lib.decodeN n b0 b1 b2 b3).1 = 10 → (Lib.decodeN n b0 b1 b2 b3).2 = 1) ∧
    (2 ≤ (Lib.decodeN n b0 b1 b2 b3).2 → 128 ≤ b1) ∧ (3 ≤ (Lib.decodeN n b0 b1 b2 b3).2 → 128 ≤ b2) ∧ (4 ≤ (Lib.decodeN n b0 b1 b2 b3).2 → 128 ≤ b3) ∧ (Lib.decodeN n b0 b1 b2 b3).2 ≤ 4 := by
  unfold Lib.decodeN
  repeat' split
  all_goals (refine ⟨⟨?_, ?_⟩, ?_, ?_, ?_, ?_, ?_⟩ <;> simp only <;> (try intros) <;> first | omega | trivial | (simp; omega) | simp_all)

/-- A rune is a newline where its first byte is one; else no byte of it is one. -/
theorem nl_at (s : ByteArray) (p : Nat) : (rn s p = 10 → wd s p = 1 ∧ (s.get! p).toNat = 10) ∧ (rn s p ≠ 10 → ∀ q, p ≤ q → q < p + wd s p → (s.get! q).toNat ≠ 10) := by
  unfold rn wd
  rw [Lib.decode_at]
  obtain ⟨h1, h2, h3, h4, h5, h6⟩ := decodeN_nl (s.size - p) (s.get! p).toNat (s.get! (p + 1)).toNat (s.get! (p + 2)).toNat (s.get! (p + 3)).toNat (byte_lt s p) (byte_lt s (p + 1)) (byte_lt s (p + 2)) (byte_lt s (p + 3))
  refine ⟨fun h => ⟨h2 h, h1.1 h⟩, fun h q hq hq' => ?_⟩
  rcases Nat.lt_or_ge q (p + 1) with a | a
  · obtain rfl : q = p := by omega
    exact fun e => h (h1.2 e)
  · rcases Nat.lt_or_ge q (p + 2) with b | b
    · obtain rfl : q = p + 1 := by omega
      have := h3 (by omega); omega
    · rcases Nat.lt_or_ge q (p + 3) with c | c
      · obtain rfl : q = p + 2 := by omega
        have := h4 (by omega); omega
      · obtain rfl : q = p + 3 := by omega
        have := h5 (by omega); omega

/-- Newlines among the first p bytes; where the line begins. -/
def nl (s : ByteArray) : Nat → Nat
  | 0 => 0
  | p + 1 => if (s.get! p).toNat = 10 then nl s p + 1 else nl s p
def bg (s : ByteArray) : Nat → Nat
  | 0 => 0
  | p + 1 => if (s.get! p).toNat = 10 then p + 1 else bg s p

theorem nl_mono (s : ByteArray) (p : Nat) : ∀ q, nl s p ≤ nl s (p + q)
  | 0 => Nat.le_refl _
  | q + 1 => by
    have := nl_mono s p q
    rw [← Nat.add_assoc, nl]
    split <;> omega
theorem nl_le (s : ByteArray) : ∀ p, nl s p ≤ p
  | 0 => Nat.le_refl _
  | p + 1 => by have := nl_le s p; rw [nl]; split <;> omega
theorem bg_le (s : ByteArray) : ∀ p, bg s p ≤ p
  | 0 => Nat.le_refl _
  | p + 1 => by have := bg_le s p; rw [bg]; split <;> omega
theorem nl_none (s : ByteArray) (p : Nat) : ∀ q, (∀ i, p ≤ i → i < p + q → (s.get! i).toNat ≠ 10) → nl s (p + q) = nl s p
  | 0, _ => rfl
  | q + 1, h => by
    rw [← Nat.add_assoc, nl, if_neg (h (p + q) (by omega) (by omega))]
    exact nl_none s p q (fun i h1 h2 => h i h1 (by omega))
/-- The line begins at the text's begin or behind a newline. -/
theorem bg_spec (s : ByteArray) : ∀ p, bg s p = 0 ∨ (1 ≤ bg s p ∧ (s.get! (bg s p - 1)).toNat = 10)
  | 0 => .inl rfl
  | p + 1 => by
    rw [bg]
    split
    · rename_i h; exact .inr ⟨by omega, by simpa using h⟩
    · exact bg_spec s p
theorem bg_ge (s : ByteArray) (q : Nat) : ∀ p, q < p → (s.get! q).toNat = 10 → q + 1 ≤ bg s p
  | 0, h, _ => by omega
  | p + 1, h, hq => by
    rw [bg]
    split
    · omega
    · rename_i hp
      have : q ≠ p := fun e => hp (by rw [← e]; exact hq)
      exact bg_ge s q p (by omega) hq

theorem count_none (l : List Rn) (f : Rn → Bool) (h : ∀ r ∈ l, f r = false) : l.countP f = 0 := by
  rw [List.countP_eq_zero]
  intro r hr
  simp [h r hr]

theorem fold_lc (s : ByteArray) (p : Nat) (hp : p ≤ s.size) (q : Nat) (hq : q ≤ p) (x : Nat × Nat) :
    (rest s q).foldl (lcS p) x = (x.1 + (nl s p - nl s q), if q < bg s p then 1 + (rest s q).countP (fun r => decide (bg s p ≤ r.1) && decide (r.1 < p)) else x.2 + (rest s q).countP (fun r => decide (r.1 < p))) := by
  rcases Nat.lt_or_ge q p with h | h
  · have hqs : q < s.size := by omega
    obtain ⟨n1, n2⟩ := nl_at s q
    have hw := wd_pos s q
    rw [rest_at s q hqs]
    simp only [List.foldl_cons, List.countP_cons]
    by_cases hr : rn s q = 10
    · obtain ⟨w1, b1⟩ := n1 hr
      have ih := fold_lc s p hp (q + 1) (by omega) (x.1 + 1, 1)
      have hS : lcS p x (q, wd s q, rn s q) = (x.1 + 1, 1) := by simp [lcS, h, hr]
      rw [hS, w1, ih]
      have hbg := bg_ge s q p h b1
      have hn : nl s (q + 1) = nl s q + 1 := by rw [nl, if_pos b1]
      have hm := nl_mono s (q + 1) (p - (q + 1))
      rw [show q + 1 + (p - (q + 1)) = p by omega] at hm
      have hnb : (decide (bg s p ≤ q) && decide (q < p)) = false := by simp; omega
      simp only [hnb]
      rw [if_pos (show q < bg s p by omega)]
      refine Prod.ext (by simp only; omega) ?_
      simp only
      by_cases hb2 : q + 1 < bg s p
      · rw [if_pos hb2]; simp
      · have hb3 : bg s p = q + 1 := by omega
        rw [if_neg hb2]
        have : (rest s (q + 1)).countP (fun r => decide (bg s p ≤ r.1) && decide (r.1 < p)) = (rest s (q + 1)).countP (fun r => decide (r.1 < p)) := by
          refine List.countP_congr fun r hr' => ?_
          have := rest_ge s (q + 1) r hr'
          have h2 : decide (bg s p ≤ r.1) = true := decide_eq_true (by omega)
          rw [h2, Bool.true_and]
        rw [this]; simp
    · have hno := n2 hr
      have hS : lcS p x (q, wd s q, rn s q) = (x.1, x.2 + 1) := by simp [lcS, h, hr]
      rw [hS]
      have hpq : decide (q < p) = true := decide_eq_true h
      rcases Nat.lt_or_ge p (q + wd s q) with hw2 | hw2
      · have hsame := lc_same p (rest s (q + wd s q)) (fun r hr' => by have := rest_ge s _ r hr'; omega) (x.1, x.2 + 1)
        have hnl := nl_none s q (p - q) (fun i h1 h2 => hno i h1 (by omega))
        rw [show q + (p - q) = p by omega] at hnl
        have hbg : ¬ q < bg s p := by
          intro hlt
          have hle := bg_le s p
          rcases bg_spec s p with h0 | ⟨_, h1⟩
          · omega
          · exact hno (bg s p - 1) (by omega) (by omega) h1
        have hc : (rest s (q + wd s q)).countP (fun r => decide (r.1 < p)) = 0 := count_none _ _ (fun r hr' => by have := rest_ge s _ r hr'; simp; omega)
        rw [hsame, if_neg hbg, hc, hnl, hpq]
        simp
      · have ih := fold_lc s p hp (q + wd s q) hw2 (x.1, x.2 + 1)
        have hnl := nl_none s q (wd s q) hno
        rw [ih, hnl]
        refine Prod.ext (by simp) ?_
        simp only
        by_cases hbq : q < bg s p
        · have hbq2 : q + wd s q < bg s p := by
            rcases bg_spec s p with h0 | ⟨_, h1⟩
            · omega
            · rcases Nat.lt_or_ge (q + wd s q) (bg s p) with h2 | h2
              · exact h2
              · exact absurd h1 (hno (bg s p - 1) (by omega) (by omega))
          rw [if_pos hbq, if_pos hbq2]
          have : decide (bg s p ≤ q) = false := decide_eq_false (by omega)
          rw [this]; simp
        · rw [if_neg hbq, if_neg (by omega), hpq]
          simp only [if_true]; omega
  · obtain rfl : q = p := by omega
    have hsame := lc_same q (rest s q) (fun r hr' => (rest_ge s q r hr').1) x
    have hbg := bg_le s q
    have hc : (rest s q).countP (fun r => decide (r.1 < q)) = 0 := count_none _ _ (fun r hr' => by have := rest_ge s _ r hr'; simp; omega)
    rw [hsame, if_neg (by omega), hc]
    simp
termination_by s.size - q
decreasing_by all_goals omega

/-- Line and column, by the bytes for the line and by the runes from the line's begin on for the column. -/
theorem lcA_nl (s : ByteArray) (p : Nat) (hp : p ≤ s.size) : lcA p (rest s 0) = (1 + nl s p, 1 + (rest s 0).countP (fun r => decide (bg s p ≤ r.1) && decide (r.1 < p))) := by
  unfold lcA
  rw [fold_lc s p hp 0 (Nat.zero_le _) (1, 1)]
  refine Prod.ext (by simp [nl]) ?_
  simp only
  split
  · rfl
  · have h0 : bg s p = 0 := by omega
    congr 1
    refine List.countP_congr fun r _ => ?_
    simp [h0]

end Go.Proofs.Ytoecfpedpibfiaa
