/- Plain facts on valid texts, on: encodings, Codes and Char, Len of the whole, Step. -/
import Derived.Test.YtbgbhogcjaodkaaCg17
import Derived.Test.YtbgbhogcjaodkaaCg15
import Derived.Test.YtbgbhogcjaodkaaCg09
namespace Go.Proofs.Ytbgbhogcjaodkaa

theorem decN_ok (n b0 b1 b2 b3 : Nat) (h0 : b0 < 256) (h1 : b1 < 256) (h2 : b2 < 256) (_h3 : b3 < 256) (hok : ¬ ((Lib.decodeN n b0 b1 b2 b3).1 = 65533 ∧ (Lib.decodeN n b0 b1 b2 b3).2 = 1)) :
    encB ((Lib.decodeN n b0 b1 b2 b3).1 : Int) = true ∧ encL (Lib.decodeN n b0 b1 b2 b3).1 = [b0, b1, b2, b3].take (Lib.decodeN n b0 b1 b2 b3).2 := by
  rw [encB_iff]
  unfold Lib.decodeN at hok ⊢
  by_cases c1 : b0 < 128
  · rw [if_pos c1]
    refine ⟨by simp only; omega, ?_⟩
    unfold encL
    rw [if_pos (by simp only; omega)]
    rfl
  · rw [if_neg c1] at hok ⊢
    by_cases c2 : b0 / 32 = 6 ∧ (1 < n ∧ b1 / 64 = 2)
    · rw [if_pos c2] at hok ⊢
      by_cases d : b0 % 32 * 64 + b1 % 64 ≥ 128
      · rw [if_pos d]
        refine ⟨by simp only; omega, ?_⟩
        unfold encL
        rw [if_neg (by simp only; omega), if_pos (by simp only; omega)]
        simp only [List.take_succ_cons, List.take_zero]
        congr 1
        · omega
        · congr 1; omega
      · rw [if_neg d] at hok; exact absurd ⟨rfl, rfl⟩ hok
    · rw [if_neg c2] at hok ⊢
      by_cases c3 : b0 / 16 = 14 ∧ (1 < n ∧ b1 / 64 = 2) ∧ (2 < n ∧ b2 / 64 = 2)
      · rw [if_pos c3] at hok ⊢
        split
        · rename_i d
          refine ⟨by simp only; omega, ?_⟩
          unfold encL
          rw [if_neg (by simp only; omega), if_neg (by simp only; omega), if_pos (by simp only; omega)]
          simp only [List.take_succ_cons, List.take_zero]
          congr 1
          · omega
          · congr 1
            · omega
            · congr 1; omega
        · rename_i d; rw [if_neg d] at hok; exact absurd ⟨rfl, rfl⟩ hok
      · rw [if_neg c3] at hok ⊢
        by_cases c4 : b0 / 8 = 30 ∧ (1 < n ∧ b1 / 64 = 2) ∧ (2 < n ∧ b2 / 64 = 2) ∧ (3 < n ∧ b3 / 64 = 2)
        · rw [if_pos c4] at hok ⊢
          split
          · rename_i d
            refine ⟨by simp only; omega, ?_⟩
            unfold encL
            rw [if_neg (by simp only; omega), if_neg (by simp only; omega), if_neg (by simp only; omega)]
            simp only [List.take_succ_cons, List.take_zero]
            congr 1
            · omega
            · congr 1
              · omega
              · congr 1
                · omega
                · congr 1; omega
          · rename_i d; rw [if_neg d] at hok; exact absurd ⟨rfl, rfl⟩ hok
        · rw [if_neg c4] at hok; exact absurd ⟨rfl, rfl⟩ hok
theorem enc_rune (s : ByteArray) (p : Nat) (hp : p < s.size) (hok : okR (p, wd s p, rn s p)) : encB (rn s p : Int) = true ∧ (encS (rn s p : Int)).data.toList = (s.data.toList.drop p).take (wd s p) := by
  have hwl := wd_le s p hp
  unfold okR at hok
  simp only [rn, wd] at hok hwl ⊢
  rw [Lib.decode_at] at hok hwl ⊢
  obtain ⟨h1, h2⟩ := decN_ok (s.size - p) (s.get! p).toNat (s.get! (p + 1)).toNat (s.get! (p + 2)).toNat (s.get! (p + 3)).toNat (byte_lt s p) (byte_lt s (p + 1)) (byte_lt s (p + 2)) (byte_lt s (p + 3)) hok
  have h4 := (decodeN_in (s.size - p) (s.get! p).toNat (s.get! (p + 1)).toNat (s.get! (p + 2)).toNat (s.get! (p + 3)).toNat (byte_lt s p) (byte_lt s (p + 1)) (byte_lt s (p + 2)) (byte_lt s (p + 3)) hok).2.2.2.2
  refine ⟨h1, ?_⟩
  generalize Lib.decodeN (s.size - p) (s.get! p).toNat (s.get! (p + 1)).toNat (s.get! (p + 2)).toNat (s.get! (p + 3)).toNat = d at *
  unfold encS
  rw [if_pos h1, enc_bytes _ h1]
  show ((encL (d.1 : Int).toNat).map UInt8.ofNat).toArray.toList = _
  rw [show ((d.1 : Int)).toNat = d.1 by omega, h2]
  have hz : s.data.toList.length = s.size := Array.length_toList
  refine List.ext_getElem? fun i => ?_
  rcases Nat.lt_or_ge i d.2 with a | a
  · have hi : i < 4 := by omega
    have hg : s.data.toList[p + i]? = some (s.get! (p + i)) := by
      rw [get_data, List.getD, List.getElem?_eq_getElem (by omega)]; rfl
    rw [List.getElem?_take_of_lt a, List.getElem?_drop, hg]
    simp only [List.getElem?_map, List.getElem?_take_of_lt a]
    obtain rfl | rfl | rfl | rfl : i = 0 ∨ i = 1 ∨ i = 2 ∨ i = 3 := by omega
    all_goals simp
  · rw [List.getElem?_eq_none (by simp; omega), List.getElem?_eq_none (by simp; omega)]
theorem chF_good {x : ByteArray} (hx : x.size ≤ 10000) : ∀ (l : List Rn) (p : Nat), rest x p = l → p ≤ x.size → Good x p → chF (x.data.toList.take p) (l.map fun r => (r.2.2 : Int)) = (x, 0)
  | [], p, h, hp, _ => by
    have hps : ¬ p < x.size := fun q => by rw [rest_at x p q] at h; cases h
    have hz : x.data.toList.length = x.size := Array.length_toList
    rw [List.take_of_length_le (by omega)]
    rfl
  | r :: l, p, h, hp, hg => by
    have hps : p < x.size := Nat.lt_of_not_le fun q => by rw [rest_end x p (by omega)] at h; cases h
    rw [rest_at x p hps] at h
    obtain ⟨rfl, h2⟩ := List.cons.inj h
    obtain ⟨ho, hg2⟩ := hg.at hps
    obtain ⟨e1, e2⟩ := enc_rune x p hps ho
    have hwl := wd_le x p hps
    have hz : x.data.toList.length = x.size := Array.length_toList
    have e3 : x.data.toList.take p ++ (encS (rn x p : Int)).data.toList = x.data.toList.take (p + wd x p) := by
      rw [e2, List.take_add]
    rw [List.map_cons, chF, if_pos (by unfold encE; rw [if_pos e1]), e3, if_neg (by rw [List.length_take]; omega)]
    exact chF_good hx l _ h2 hwl hg2
theorem cdR_good {x : ByteArray} (hg : Good x 0) : cdR x 1 x.size = if 200 < (rest x 0).length then ([], 14) else (rest x 0, 0) := by
  unfold cdR
  rw [mt_in (by omega), mt_in (by omega), if_neg (by omega), show (1 : Int).toNat - 1 = 0 by omega, bw_all]
  have hb : ¬ 0 ≤ badOf ((rest x 0).take 201) := by
    have := badOf_ok (l := (rest x 0).take 201) (fun r hr => hg r (List.mem_of_mem_take hr))
    omega
  unfold cdL cdE
  rw [if_neg hb]
  by_cases h : 200 < (rest x 0).length
  · rw [if_pos h, if_pos h, if_neg (by omega)]
  · rw [if_neg h, if_neg h, if_pos rfl]
theorem len_all {x : ByteArray} (hg : Good x 0) : lenR x 1 (-1) = (((rest x 0).length : Int), 0, 0) := by
  unfold lenR
  rw [mt_in (by omega)]
  rcases Nat.eq_zero_or_pos x.size with a | a
  · have e : mt x.size (-1) = 0 := by unfold mt; rw [if_neg (by omega), if_neg (by omega)]
    rw [e, if_neg (by omega), show (1 : Int).toNat - 1 = 0 by omega, bw_stop (by omega), rest_end x 0 (by omega)]
    rfl
  · rw [mt_neg (by omega) (by omega), if_neg (by omega), show (x.size : Int) + 1 + -1 = x.size by omega, show (1 : Int).toNat - 1 = 0 by omega, bw_all, lenA_ok hg]
theorem rest_inj {x : ByteArray} {a b : Nat} (ha : a ≤ x.size) (hb : b ≤ x.size) (h : rest x a = rest x b) : a = b := by
  rcases Nat.lt_or_ge a x.size with c | c
  · rw [rest_at x a c] at h
    rcases Nat.lt_or_ge b x.size with d | d
    · rw [rest_at x b d] at h
      exact congrArg Prod.fst (List.cons.inj h).1
    · rw [rest_end x b (by omega)] at h; cases h
  · rw [rest_end x a (by omega)] at h
    rcases Nat.lt_or_ge b x.size with d | d
    · rw [rest_at x b d] at h; cases h
    · omega
theorem en_pos (x : ByteArray) (k : Nat) : en 0 ((rest x 0).take k) = pos x k := by
  refine rest_inj (en_take_le k) (pos_le x k) ?_
  rw [← drop_pos, ← rest_en x _ _ 0 (List.take_append_drop k _).symm]
/-- Where Step is asked from for the k-th rune. -/
def atK (x : ByteArray) : Nat → Int
  | 0 => 0
  | k + 1 => (pos x k : Int) + 1
theorem nx_at {x : ByteArray} {k : Nat} (hk : k ≤ (rest x 0).length) : 0 ≤ atK x k ∧ atK x k ≤ x.size ∧ nxB x (atK x k) = pos x k := by
  cases k with
  | zero =>
    refine ⟨Int.le_refl _, by show (0 : Int) ≤ _; omega, ?_⟩
    have h : pos x 0 = 0 := by rw [← en_pos]; rfl
    rw [h]; rfl
  | succ k =>
    have h1 := pos_lt x k (by omega)
    have h2 := pos_succ x k (by omega)
    refine ⟨by show 0 ≤ (pos x k : Int) + 1; omega, by show (pos x k : Int) + 1 ≤ _; omega, ?_⟩
    show nxB x ((pos x k : Int) + 1) = _
    unfold nxB
    rw [if_pos (by omega), show ((pos x k : Int) + 1 - 1).toNat = pos x k by omega, h2]
theorem st_mid {x : ByteArray} (hg : Good x 0) {k : Nat} (hk : k < (rest x 0).length) : stR x (atK x k) = ((pos x k : Int) + 1, (rn x (pos x k) : Int), true, 0) := by
  have h1 := pos_lt x k hk
  have ho : okR (pos x k, wd x (pos x k), rn x (pos x k)) := by rw [← get_pos x k hk]; exact hg _ (List.getElem_mem hk)
  have hb : bdB x (pos x k) = false := by
    unfold bdB
    unfold okR at ho
    exact decide_eq_false ho
  rw [stR_some (nx_at (by omega)) ⟨pos x k, h1⟩ rfl]
  unfold resx
  rw [if_neg (by rw [hb]; simp)]
theorem st_end {x : ByteArray} : stR x (atK x (rest x 0).length) = (0, 0, false, 0) :=
  stR_end (nx_at (Nat.le_refl _)) (by rw [pos_end x _ (Nat.le_refl _)]; exact Nat.le_refl _)
end Go.Proofs.Ytbgbhogcjaodkaa
