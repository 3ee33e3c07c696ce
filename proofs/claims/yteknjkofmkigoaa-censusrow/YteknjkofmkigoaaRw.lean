/- What Sizes answers of a row 1 to n and of the same numbers turned about. -/
import Derived.Test.YteknjkofmkigoaaDense
namespace Go.Proofs.Yteknjkofmkigoaa
open Go.RowKit

def upL (n : Nat) : List Int := (List.range n).map fun i : Nat => (i : Int) + 1
def dnL (n k : Nat) : List Int := (List.range k).map fun i : Nat => (n : Int) - i
theorem upL_succ (n : Nat) : upL (n + 1) = upL n ++ [(n : Int) + 1] := by simp [upL, List.range_succ]
theorem dnL_succ (n k : Nat) : dnL n (k + 1) = dnL n k ++ [(n : Int) - k] := by simp [dnL, List.range_succ]
theorem upL_len (n : Nat) : (upL n).length = n := by simp [upL]
theorem dnL_len (n k : Nat) : (dnL n k).length = k := by simp [dnL]
theorem upL_nodup (n : Nat) : (upL n).Nodup := by
  unfold upL
  refine List.Pairwise.map _ (fun a b h => ?_) List.nodup_range
  omega
theorem dn_up (n : Nat) : dnL n n = (upL n).reverse := by
  apply List.ext_getElem
  · simp [dnL, upL]
  · intro i h1 h2
    simp only [dnL, List.length_map, List.length_range] at h1
    simp only [dnL, upL, List.getElem_map, List.getElem_range, List.getElem_reverse, List.length_map, List.length_range]
    omega
theorem dn_perm (n : Nat) : (dnL n n).Perm (upL n) := by rw [dn_up]; exact List.reverse_perm _
theorem upL_fit (n : Nat) (h : n ≤ 3000) : Fit (upL n) := by
  intro i hi
  rw [upL_len] at hi
  simp [upL, List.getD, hi]
  omega
theorem dnL_fit (n : Nat) (h : n ≤ 3000) : Fit (dnL n n) := by
  intro i hi
  rw [dnL_len] at hi
  simp [dnL, List.getD, hi]
  omega

theorem cntL_perm {l m : List Int} (h : l.Perm m) : cntL l = cntL m := by
  unfold cntL cnt
  apply List.map_congr_left
  intro i _
  rw [h.countP_eq]
theorem sz_perm {l m : List Int} (h : l.Perm m) (o : Int) : szE l o = szE m o ∧ szA l o = szA m o ∧ szH l o = szH m o := by
  have hr : rest l = rest m := by unfold rest; rw [cntL_perm h, h.length_eq]
  have he : szE l o = szE m o := by
    unfold szE
    rw [hr]
    have hq : (¬ l.Nodup) = (¬ m.Nodup) := by rw [h.nodup_iff]
    simp only [hq]
  refine ⟨he, ?_, ?_⟩
  · unfold szA; rw [he, cntL_perm h]
  · unfold szH; rw [he, hr]

theorem wi_up (n : Nat) (a : Int) (h : 0 ≤ a) : wi (upL n) a = min (n : Int) a := by
  induction n with
  | zero => simp [upL, wi]; omega
  | succ n ih =>
    rw [upL_succ]
    have e : wi (upL n ++ [(n : Int) + 1]) a = wi (upL n) a + (if 1 ≤ (n : Int) + 1 ∧ (n : Int) + 1 ≤ a then 1 else 0) := by
      unfold wi
      rw [List.countP_append, List.countP_singleton]
      by_cases hq : 1 ≤ (n : Int) + 1 ∧ (n : Int) + 1 ≤ a
      · rw [if_pos hq, if_pos (by simpa using hq)]; rfl
      · rw [if_neg hq, if_neg (by simpa using hq)]; rfl
    rw [e, ih]
    split <;> omega

/-- What the law asks of the row. -/
structure RowAsk (n : Nat) (o A H E : Int) : Prop where
  e : E = 0
  a0 : n = 0 → A = 0
  a1 : 0 < n → (n : Int) ≤ A ∧ A < 2 * n
  h1 : o ≤ H
  h2 : o = 0 → H = 0
theorem row_ask (n : Nat) (hn : n ≤ 3000) (o : Int) (h0 : 0 ≤ o) (h1 : o ≤ 1000) : RowAsk n o (szA (upL n) o) (szH (upL n) o) (szE (upL n) o) := by
  have hd := dense_of (upL n) (upL_fit n hn)
  have hN := chN_le (upL n)
  rw [upL_len] at hN
  have hA : (n = 0 → chA (cntL (upL n)) 17 = 0) ∧ (0 < n → (n : Int) ≤ chA (cntL (upL n)) 17 ∧ chA (cntL (upL n)) 17 < 2 * n) ∧ chN (cntL (upL n)) 17 = n := by
    have hw := hd.n
    rw [wi_up n _ hd.a0] at hw
    have hup : chA (cntL (upL n)) 17 ≠ 0 → chA (cntL (upL n)) 17 < 2 * n := fun q => by have := hd.half q; omega
    have hlo : (n : Int) ≤ chA (cntL (upL n)) 17 := by
      rcases Int.lt_or_le (chA (cntL (upL n)) 17) n with q | q
      · exfalso
        rcases chN_cases (cntL (upL n)) 17 with ⟨e, _⟩ | ⟨k, hk, e, _⟩
        · have := hd.most 0 (by omega) (by rw [e]; decide)
          rw [wi_up n _ (by decide)] at this
          simp at this
          omega
        · have hp := pow_int k
          have hp1 := pow_int (k + 1)
          have hk12 : k ≤ 15 := by
            rcases Nat.lt_or_ge 15 k with q2 | q2
            · have := Nat.pow_le_pow_right (n := 2) (by omega) (show 16 ≤ k by omega)
              omega
            · exact q2
          have hs : (2 : Int) ^ (k + 1) = 2 * 2 ^ k := by rw [Int.pow_succ]; omega
          have hpos : (1 : Int) ≤ 2 ^ k := (pow16 k (by omega)).1
          have := hd.most (k + 1) (by omega) (by rw [e, hs]; omega)
          rw [wi_up n _ (by omega), hs] at this
          omega
      · exact q
    refine ⟨fun q => ?_, fun q => ⟨hlo, hup (by omega)⟩, by omega⟩
    rcases Int.lt_or_le 0 (chA (cntL (upL n)) 17) with q2 | q2
    · have := hup (by omega); omega
    · have := hd.a0; omega
  have hr : rest (upL n) = 0 := by unfold rest; rw [upL_len, hA.2.2]; omega
  have he : szE (upL n) o = 0 := by
    unfold szE
    rw [if_neg (by omega), if_neg (by simpa using upL_nodup n), if_neg (by omega)]
  have hu := up2_facts o h0 (by omega)
  refine ⟨he, ?_, ?_, ?_, ?_⟩
  · unfold szA; rw [if_pos he]; exact hA.1
  · unfold szA; rw [if_pos he]; exact hA.2.1
  · unfold szH; rw [if_pos he, hr, Int.add_zero]; omega
  · unfold szH; rw [if_pos he, hr, Int.add_zero]; omega
end Go.Proofs.Yteknjkofmkigoaa
