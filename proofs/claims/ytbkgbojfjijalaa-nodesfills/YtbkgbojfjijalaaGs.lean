/- The pure part, on: how many nodes hold keys, and what is read to find them all. -/
import Derived.Test.YtbkgbojfjijalaaGl
namespace Go.Proofs.Ytbkgbojfjijalaa
variable {z : Nat} {pl : V → Nat} {ok : V → Prop} {g : G}

def sumTo : Nat → (Nat → Nat) → Nat
  | 0, _ => 0
  | n + 1, f => sumTo n f + f n
theorem sumTo_congr {n : Nat} {f f' : Nat → Nat} (h : ∀ j, j < n → f j = f' j) : sumTo n f = sumTo n f' := by
  induction n with
  | zero => rfl
  | succ n ih => rw [sumTo, sumTo, ih (fun j hj => h j (by omega)), h n (by omega)]
theorem sumTo_add (n : Nat) (f f' : Nat → Nat) : sumTo n (fun j => f j + f' j) = sumTo n f + sumTo n f' := by
  induction n with
  | zero => rfl
  | succ n ih => rw [sumTo, sumTo, sumTo, ih]; omega
theorem sumTo_zero (n : Nat) : sumTo n (fun _ => 0) = 0 := by
  induction n with
  | zero => rfl
  | succ n ih => rw [sumTo, ih]
theorem sumTo_one {n x : Nat} (v : Nat) (h : x < n) : sumTo n (fun j => if j = x then v else 0) = v := by
  induction n with
  | zero => omega
  | succ n ih =>
    rw [sumTo]
    by_cases e : x = n
    · subst e
      rw [if_pos rfl, sumTo_congr (f' := fun _ => 0) (fun j hj => by rw [if_neg (by omega)]), sumTo_zero]; omega
    · rw [ih (by omega), if_neg (fun q => e q.symm)]; rfl
theorem sumTo_le {n : Nat} {f f' : Nat → Nat} (h : ∀ j, j < n → f j ≤ f' j) : sumTo n f ≤ sumTo n f' := by
  induction n with
  | zero => exact Nat.le_refl _
  | succ n ih =>
    have h1 := ih (fun j hj => h j (by omega))
    have h2 := h n (by omega)
    rw [sumTo, sumTo]; omega

/-- Where a number stands in a list, from one on; nought: nowhere. -/
def pos (c : List Nat) (j : Nat) : Nat := if j ∈ c then (c.takeWhile (· != j)).length + 1 else 0
theorem pos_split {p q : List Nat} {i : Nat} (h : i ∉ p) : pos (p ++ i :: q) i = p.length + 1 := by
  unfold pos
  rw [if_pos (by simp)]
  congr 1
  induction p with
  | nil => simp
  | cons a p ih =>
    simp only [List.mem_cons, not_or] at h
    have : (a != i) = true := by simpa using fun e => h.1 e.symm
    rw [List.cons_append, List.takeWhile_cons, if_pos this, List.length_cons, ih h.2]; rfl
theorem pos_not {c : List Nat} {i : Nat} (h : i ∉ c) : pos c i = 0 := by unfold pos; rw [if_neg h]
def tri : Nat → Nat
  | 0 => 0
  | n + 1 => tri n + (n + 1)
theorem tri_two (n : Nat) : 2 * tri n = n * (n + 1) := by
  induction n with
  | zero => rfl
  | succ n ih => rw [tri, Nat.mul_add, ih, ← Nat.add_mul, Nat.mul_comm]
theorem tri_half (n : Nat) : n * (n + 1) / 2 = tri n := by rw [← tri_two]; omega
theorem tri_add (a b : Nat) : tri a + tri b ≤ tri (a + b) := by
  induction b with
  | zero => exact Nat.le_refl _
  | succ b ih =>
    have e1 : tri (b + 1) = tri b + (b + 1) := rfl
    have e2 : tri (a + (b + 1)) = tri (a + b) + (a + b + 1) := rfl
    rw [e1, e2]; omega
theorem sum_pos {n : Nat} {c : List Nat} (hn : c.Nodup) (hl : ∀ x, x ∈ c → x < n) : sumTo n (pos c) = tri c.length ∧ sumTo n (fun j => if j ∈ c then 1 else 0) = c.length := by
  obtain ⟨k, hk⟩ : ∃ k, c.length = k := ⟨_, rfl⟩
  induction k generalizing c with
  | zero =>
    obtain rfl : c = [] := List.eq_nil_of_length_eq_zero hk
    constructor
    · rw [sumTo_congr (f' := fun _ => 0) (fun j _ => pos_not (by simp)), sumTo_zero]; rfl
    · rw [sumTo_congr (f' := fun _ => 0) (fun j _ => if_neg (by simp)), sumTo_zero]; rfl
  | succ k ih =>
    rcases List.eq_nil_or_concat c with e | ⟨c', x, e⟩
    · rw [e] at hk; cases hk
    · rw [List.concat_eq_append] at e
      subst e
      rw [List.nodup_append] at hn
      have hx : x ∉ c' := fun h => hn.2.2 x h x (by simp) rfl
      have hk' : c'.length = k := by simp at hk; omega
      obtain ⟨i1, i2⟩ := ih (c := c') hn.1 (fun y hy => hl y (by simp [hy])) hk'
      have hxn : x < n := hl x (by simp)
      constructor
      · rw [sumTo_congr (f' := fun j => pos c' j + (if j = x then k + 1 else 0)) (fun j _ => ?_), sumTo_add, i1, sumTo_one _ hxn]
        · simp [hk']; rfl
        · by_cases e : j = x
          · subst e
            rw [if_pos rfl, pos_not hx, pos_split hx, hk']; omega
          · rw [if_neg e]
            by_cases h : j ∈ c'
            · obtain ⟨p, q, rfl, hp⟩ := mem_split h
              rw [List.append_assoc, List.cons_append, pos_split hp, pos_split hp]
            · rw [pos_not h, pos_not (by simp [h, e])]
      · rw [sumTo_congr (f' := fun j => (if j ∈ c' then 1 else 0) + (if j = x then 1 else 0)) (fun j _ => ?_), sumTo_add, i2, sumTo_one _ hxn]
        · simp
        · by_cases e : j = x
          · subst e; simp [hx]
          · simp [e]

/-- How many nodes hold keys; what is read for each. -/
def held (g : G) (n : Nat) : Nat := sumTo n (fun j => if g.K j = nil then 0 else 1)
def rds (pl : V → Nat) (g : G) (j : Nat) : Nat := if g.K j = nil then 0 else (find pl g (g.K j)).2
theorem Inv.rds_pos (h : Inv z pl ok g) (hpl : ∀ k, ok k → pl k < z) {j : Nat} (hj : j < z) (hne : g.K j ≠ nil) : rds pl g j = pos (g.C (pl (g.K j))) j := by
  obtain ⟨p, q, hc, hp, hf⟩ := h.find_held hpl hj hne
  rw [rds, if_neg hne, hf, hc, pos_split hp]
theorem Inv.sum_rds (h : Inv z pl ok g) (hpl : ∀ k, ok k → pl k < z) : sumTo z (rds pl g) ≤ tri (held g z) ∧ held g z ≤ sumTo z (rds pl g) := by
  have key : ∀ M, M ≤ z → sumTo z (fun j => if g.K j ≠ nil ∧ pl (g.K j) < M then rds pl g j else 0) ≤ tri (sumTo z (fun j => if g.K j ≠ nil ∧ pl (g.K j) < M then 1 else 0)) := by
    intro M
    induction M with
    | zero =>
      intro _
      rw [sumTo_congr (f' := fun _ => 0) (fun j _ => if_neg (by omega)), sumTo_zero]
      exact Nat.zero_le _
    | succ M ih =>
      intro hM
      obtain ⟨s1, s2⟩ := sum_pos (h.nd M (by omega)) (fun x hx => (h.cok M (by omega) x hx).1)
      have inM : ∀ j, j < z → (j ∈ g.C M ↔ g.K j ≠ nil ∧ pl (g.K j) = M) := fun j hj => ⟨fun hm => (h.cok M (by omega) j hm).2, fun hm => hm.2 ▸ h.inC j hj hm.1⟩
      have e1 : sumTo z (fun j => if g.K j ≠ nil ∧ pl (g.K j) < M + 1 then rds pl g j else 0) = sumTo z (fun j => if g.K j ≠ nil ∧ pl (g.K j) < M then rds pl g j else 0) + sumTo z (pos (g.C M)) := by
        rw [← sumTo_add]
        refine sumTo_congr fun j hj => ?_
        by_cases hk : g.K j ≠ nil
        · by_cases hp : pl (g.K j) = M
          · rw [if_pos ⟨hk, by omega⟩, if_neg (by omega), h.rds_pos hpl hj hk, hp]; omega
          · have : j ∉ g.C M := fun hx => hp ((inM j hj).1 hx).2
            rw [pos_not this]
            by_cases hl : pl (g.K j) < M
            · rw [if_pos ⟨hk, by omega⟩, if_pos ⟨hk, hl⟩]; rfl
            · rw [if_neg (by omega), if_neg (by omega)]
        · have : j ∉ g.C M := fun hx => hk ((inM j hj).1 hx).1
          rw [pos_not this, if_neg (fun q => hk q.1), if_neg (fun q => hk q.1)]
      have e2 : sumTo z (fun j => if g.K j ≠ nil ∧ pl (g.K j) < M + 1 then 1 else 0) = sumTo z (fun j => if g.K j ≠ nil ∧ pl (g.K j) < M then 1 else 0) + sumTo z (fun j => if j ∈ g.C M then 1 else 0) := by
        rw [← sumTo_add]
        refine sumTo_congr fun j hj => ?_
        by_cases hk : g.K j ≠ nil
        · by_cases hp : pl (g.K j) = M
          · rw [if_pos ⟨hk, by omega⟩, if_neg (by omega), if_pos ((inM j hj).2 ⟨hk, hp⟩)]
          · have : j ∉ g.C M := fun hx => hp ((inM j hj).1 hx).2
            rw [if_neg this]
            by_cases hl : pl (g.K j) < M
            · rw [if_pos ⟨hk, by omega⟩, if_pos ⟨hk, hl⟩]
            · rw [if_neg (by omega), if_neg (by omega)]
        · have : j ∉ g.C M := fun hx => hk ((inM j hj).1 hx).1
          rw [if_neg this, if_neg (fun q => hk q.1), if_neg (fun q => hk q.1)]
      rw [e1, e2, s1, s2]
      exact Nat.le_trans (Nat.add_le_add_right (ih (by omega)) _) (tri_add _ _)
  have hall := key z (Nat.le_refl _)
  have hp : ∀ j, j < z → g.K j ≠ nil → pl (g.K j) < z := fun j hj hk => hpl _ ((h.key j hj).resolve_left hk)
  have e3 : sumTo z (fun j => if g.K j ≠ nil ∧ pl (g.K j) < z then rds pl g j else 0) = sumTo z (rds pl g) := sumTo_congr fun j hj => by
    by_cases hk : g.K j = nil
    · rw [if_neg (fun q => q.1 hk), rds, if_pos hk]
    · rw [if_pos ⟨hk, hp j hj hk⟩]
  have e4 : sumTo z (fun j => if g.K j ≠ nil ∧ pl (g.K j) < z then 1 else 0) = held g z := sumTo_congr fun j hj => by
    by_cases hk : g.K j = nil
    · rw [if_neg (fun q => q.1 hk), if_pos hk]
    · rw [if_pos ⟨hk, hp j hj hk⟩, if_neg hk]
  rw [e3, e4] at hall
  refine ⟨hall, sumTo_le fun j hj => ?_⟩
  by_cases hk : g.K j = nil
  · rw [if_pos hk]; exact Nat.zero_le _
  · obtain ⟨p, q, hc, hpp, hf⟩ := h.find_held hpl hj hk
    rw [if_neg hk, rds, if_neg hk, hf]; omega
theorem held_le (g : G) (n : Nat) : held g n ≤ n := by
  have h1 : held g n ≤ sumTo n (fun _ => 1) := sumTo_le fun j _ => by split <;> omega
  have h2 : ∀ m, sumTo m (fun _ => 1) = m := fun m => by
    induction m with
    | zero => rfl
    | succ m ih => rw [sumTo, ih]
  rw [h2] at h1
  exact h1
end Go.Proofs.Ytbkgbojfjijalaa
