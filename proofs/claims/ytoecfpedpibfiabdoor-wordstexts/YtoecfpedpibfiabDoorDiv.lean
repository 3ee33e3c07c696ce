/- The walks of Add, Sub, Mul, Neg, Div and Mod, the code's and the reference's: what each answers, as plain functions. -/
import Derived.Test.YtoecfpedpibfiabDoorArith
import Derived.Test.YtoecfpedpibfiabDoorRows
import Derived.WalkKit
import Derived.WalkSpells
import Derived.WalkLawsBesides
namespace Go.Proofs.YtoecfpedpibfiabDoor
open Go.RowKit

def apB (r b : Int) : Bool := decide (r ≠ 0) && (decide (r < 0) != decide (b < 0))
def qd (a b : Int) : Int := if b = 0 then 0 else if apB (a.tmod b) b = true then wrap64 (wrap64 (a.tdiv b) - 1) else wrap64 (a.tdiv b)
def md (a b : Int) : Int := if b = 0 then 0 else if apB (a.tmod b) b = true then wrap64 (a.tmod b + b) else a.tmod b
def ez (b : Int) : Int := if b = 0 then 7 else 0

theorem ret2 {a b c d : Int} (h : a = b) (h' : c = d) : Ending.returned (.tuple #[.int .i64 a, .int .i64 c]) = .returned (.tuple #[.int .i64 b, .int .i64 d]) := by rw [h, h']

set_option maxHeartbeats 400000 in
theorem apart_any (r b : Int) (w : World) : Calls Tryd.prog 30 #[.int .i64 r, .int .i64 b] w fun e w' => e = .returned (.bool (apB r b)) ∧ w' = w := by
  go_enter Tryd.func30, Tryd.ntmps30
  go_wp2
  · go_ret
    rename_i h0
    exact ⟨by simp [apB, h0], rfl⟩
  · go_ret
    refine ⟨?_, rfl⟩
    have : (r != 0) = decide (r ≠ 0) := by simp [bne, Bool.not_eq_eq_eq_not, decide_not]; rfl
    simp [apB, this]
    cases decide (r < 0) <;> cases decide (b < 0) <;> rfl

set_option maxHeartbeats 400000 in
theorem div_any (a b : Int) (w : World) : Calls Tryd.prog 8 #[.int .i64 a, .int .i64 b] w fun e w' => e = .returned (.tuple #[.int .i64 (qd a b), .int .i64 (ez b)]) ∧ w' = w := by
  by_cases hb : b = 0
  · subst hb
    go_enter Tryd.func8, Tryd.ntmps8
    go_wp2
    go_ret2
    exact ⟨rfl, rfl⟩
  · have hb' : (b == 0) = false := by simpa using hb
    cases h : apB (a.tmod b) b
    · have hq : qd a b = wrap64 (a.tdiv b) := by simp [qd, hb, h]
      have he : ez b = 0 := by simp [ez, hb]
      rw [hq, he]
      clear hq he
      go_enter Tryd.func8, Tryd.ntmps8
      go_wp2_with (go_at_call 30; refine (apart_any _ _ _).mono ?_; rintro e w' ⟨rfl, rfl⟩)
      go_ret2
      exact ⟨rfl, rfl⟩
    · have hq : qd a b = wrap64 (wrap64 (a.tdiv b) - 1) := by simp [qd, hb, h]
      have he : ez b = 0 := by simp [ez, hb]
      rw [hq, he]
      clear hq he
      go_enter Tryd.func8, Tryd.ntmps8
      go_wp2_with (go_at_call 30; refine (apart_any _ _ _).mono ?_; rintro e w' ⟨rfl, rfl⟩)
      go_ret2
      exact ⟨rfl, rfl⟩

set_option maxHeartbeats 400000 in
theorem mod_any (a b : Int) (w : World) : Calls Tryd.prog 16 #[.int .i64 a, .int .i64 b] w fun e w' => e = .returned (.tuple #[.int .i64 (md a b), .int .i64 (ez b)]) ∧ w' = w := by
  by_cases hb : b = 0
  · subst hb
    go_enter Tryd.func16, Tryd.ntmps16
    go_wp2
    go_ret2
    exact ⟨rfl, rfl⟩
  · have hb' : (b == 0) = false := by simpa using hb
    cases h : apB (a.tmod b) b
    · have hq : md a b = a.tmod b := by simp [md, hb, h]
      have he : ez b = 0 := by simp [ez, hb]
      rw [hq, he]
      clear hq he
      go_enter Tryd.func16, Tryd.ntmps16
      go_wp2_with (go_at_call 30; refine (apart_any _ _ _).mono ?_; rintro e w' ⟨rfl, rfl⟩)
      go_ret2
      exact ⟨rfl, rfl⟩
    · have hq : md a b = wrap64 (a.tmod b + b) := by simp [md, hb, h]
      have he : ez b = 0 := by simp [ez, hb]
      rw [hq, he]
      clear hq he
      go_enter Tryd.func16, Tryd.ntmps16
      go_wp2_with (go_at_call 30; refine (apart_any _ _ _).mono ?_; rintro e w' ⟨rfl, rfl⟩)
      go_ret2
      exact ⟨rfl, rfl⟩

/-! ### The reference's -/
theorem mul_back (a b : Int) (hb : b ≠ 0) (ha0 : -9223372036854775808 ≤ a) (ha1 : a ≤ 9223372036854775807) (hm : ¬ (a = -9223372036854775808 ∧ b = -1)) :
    wrap64 (a.tdiv b) = a.tdiv b ∧ wrap64 (a.tdiv b * b) = a - a.tmod b := by
  obtain ⟨h1, h2, h3, h4⟩ := tm_facts a b hb
  have hq := td_bound a b
  have hc : a.tdiv b * b = b * a.tdiv b := Int.mul_comm _ _
  have hq' : a.tdiv b ≠ 9223372036854775808 := by
    intro hq2
    have hab : a = -9223372036854775808 := by omega
    apply hm
    refine ⟨hab, ?_⟩
    rw [hq2] at h1
    have := h4 (by omega)
    omega
  refine ⟨wrap64_id _ (by omega) (by omega), ?_⟩
  rw [hc]
  have : b * a.tdiv b = a - a.tmod b := by omega
  rw [this]
  apply wrap64_id
  · rcases Int.le_total 0 a with h | h
    · have := h3 h
      have : (a.tmod b).natAbs ≤ a.natAbs := by rw [Int.natAbs_tmod]; exact Nat.mod_le _ _
      omega
    · have := h4 h; omega
  · rcases Int.le_total 0 a with h | h
    · have := h3 h; omega
    · have := h4 h
      have : (a.tmod b).natAbs ≤ a.natAbs := by rw [Int.natAbs_tmod]; exact Nat.mod_le _ _
      omega

/-- Whether the rest and the divisor part in sign, as the reference asks it. -/
theorem apB_iff (a b : Int) (hb : b ≠ 0) (ha0 : -9223372036854775808 ≤ a) (ha1 : a ≤ 9223372036854775807) (hm : ¬ (a = -9223372036854775808 ∧ b = -1)) :
    apB (a.tmod b) b = ((wrap64 (a.tdiv b * b) != a) && (decide (a < 0) != decide (b < 0))) := by
  obtain ⟨h1, h2, h3, h4⟩ := tm_facts a b hb
  obtain ⟨_, hk⟩ := mul_back a b hb ha0 ha1 hm
  rw [hk]
  by_cases hr : a.tmod b = 0
  · simp [apB, hr]
  · have e1 : (a - a.tmod b != a) = true := by simp; omega
    have e2 : decide (a.tmod b < 0) = decide (a < 0) := by
      by_cases h : a < 0
      · have := h4 (by omega); simp [h]; omega
      · have := h3 (by omega); simp [h]; omega
    simp [apB, hr, e1, e2]

theorem fin_no (a b : Int) (hb : b ≠ 0) (ha0 : -9223372036854775808 ≤ a) (ha1 : a ≤ 9223372036854775807) (hm : ¬ (a = -9223372036854775808 ∧ b = -1))
    (h : wrap64 (wrap64 (a.tdiv b) * b) = a ∨ (wrap64 (wrap64 (a.tdiv b) * b) != a) = false ∨ (!decide (a < 0) == decide (b < 0)) = false) : wrap64 (a.tdiv b) = qd a b := by
  have hx := apB_iff a b hb ha0 ha1 hm
  rw [← (mul_back a b hb ha0 ha1 hm).1] at hx
  have hp : apB (a.tmod b) b = false := by
    rw [hx]
    rcases h with h | h | h
    · simp [h]
    · simp [h]
    · revert h; cases decide (a < 0) <;> cases decide (b < 0) <;> simp
  simp [qd, hb, hp]

theorem fin_yes (a b : Int) (hb : b ≠ 0) (ha0 : -9223372036854775808 ≤ a) (ha1 : a ≤ 9223372036854775807) (hm : ¬ (a = -9223372036854775808 ∧ b = -1))
    (h : (wrap64 (wrap64 (a.tdiv b) * b) != a) = true ∧ (!decide (a < 0) == decide (b < 0)) = true) : wrap64 (wrap64 (a.tdiv b) - 1) = qd a b := by
  have hx := apB_iff a b hb ha0 ha1 hm
  rw [← (mul_back a b hb ha0 ha1 hm).1] at hx
  have hp : apB (a.tmod b) b = true := by
    rw [hx, h.1]
    have := h.2; revert this; cases decide (a < 0) <;> cases decide (b < 0) <;> simp
  simp [qd, hb, hp]

theorem neg_form (b : Int) : -Int.tdiv 9223372036854775808 b = Int.tdiv (-9223372036854775808) b := (Int.neg_tdiv _ _).symm
theorem min_neg : decide ((-9223372036854775808 : Int) < 0) = true := rfl

set_option maxHeartbeats 400000 in
theorem rdiv_any (a b : Int) (w : World) (ha0 : -9223372036854775808 ≤ a) (ha1 : a ≤ 9223372036854775807) : Calls Tryd.prog 9 #[.int .i64 a, .int .i64 b] w fun e w' => e = .returned (.tuple #[.int .i64 (qd a b), .int .i64 (ez b)]) ∧ w' = w := by
  by_cases hb : b = 0
  · subst hb
    go_enter Tryd.func9, Tryd.ntmps9
    go_wp2
    go_ret2
    exact ⟨rfl, rfl⟩
  · have hb' : (b == 0) = false := by simpa using hb
    have he : ez b = 0 := by simp [ez, hb]
    rw [he]
    clear he
    by_cases hm : a = -9223372036854775808 ∧ b = -1
    · obtain ⟨rfl, rfl⟩ := hm
      have hq : qd (-9223372036854775808) (-1) = -9223372036854775808 := by simp [qd, apB, wrap64]
      rw [hq]
      clear hq
      go_enter Tryd.func9, Tryd.ntmps9
      go_wp2
      go_ret2
      exact ⟨rfl, rfl⟩
    · have H0 : Hid (-9223372036854775808 ≤ a) := ha0
      have H1 : Hid (a ≤ 9223372036854775807) := ha1
      have HM : Hid (¬ (a = -9223372036854775808 ∧ b = -1)) := hm
      clear ha0 ha1 hm
      go_enter Tryd.func9, Tryd.ntmps9
      go_wp2
      · exfalso
        rename_i h1 h2
        exact HM.out ⟨h1, by simpa using h2⟩
      · go_ret2
        rename_i h1 h2 h3
        refine ⟨ret2 ?_ rfl, rfl⟩
        subst h1
        simp only [neg_form] at h3 ⊢
        exact fin_no _ b hb H0.out H1.out HM.out (.inl h3)
      · go_ret2
        rename_i h1 h2 h3 h4
        refine ⟨ret2 ?_ rfl, rfl⟩
        subst h1
        simp only [neg_form] at h4 ⊢
        exact fin_yes _ b hb H0.out H1.out HM.out ⟨h4.1, by rw [min_neg]; simpa using h4.2⟩
      · go_ret2
        rename_i h1 h2 h3 h4
        refine ⟨ret2 ?_ rfl, rfl⟩
        subst h1
        simp only [neg_form] at h4 ⊢
        exact fin_no _ b hb H0.out H1.out HM.out (h4.elim (fun h => .inr (.inl h)) (fun h => .inr (.inr (by rw [min_neg]; simpa using h))))
      · go_ret2
        rename_i h1 h3
        exact ⟨ret2 (fin_no _ b hb H0.out H1.out HM.out (.inl h3)) rfl, rfl⟩
      · go_ret2
        rename_i h1 h2 h4
        exact ⟨ret2 (fin_yes _ b hb H0.out H1.out HM.out h4) rfl, rfl⟩
      · go_ret2
        rename_i h1 h2 h4
        exact ⟨ret2 (fin_no _ b hb H0.out H1.out HM.out (.inr h4)) rfl, rfl⟩

theorem md_no (a b : Int) (hb : b ≠ 0) (h : ¬ (a.tmod b < 0 ∧ 0 < b) ∧ ¬ (0 < a.tmod b ∧ b < 0)) : a.tmod b = md a b := by
  have hp : apB (a.tmod b) b = false := by
    unfold apB
    generalize a.tmod b = r at h
    by_cases h1 : r < 0 <;> by_cases h2 : r = 0 <;> by_cases h3 : b < 0 <;> simp [h1, h2, h3] <;> omega
  simp [md, hb, hp]

theorem md_yes (a b : Int) (hb : b ≠ 0) (h : (a.tmod b < 0 ∧ 0 < b) ∨ (0 < a.tmod b ∧ b < 0)) : wrap64 (a.tmod b + b) = md a b := by
  have hp : apB (a.tmod b) b = true := by
    unfold apB
    generalize a.tmod b = r at h
    by_cases h1 : r < 0 <;> by_cases h2 : r = 0 <;> by_cases h3 : b < 0 <;> simp [h1, h2, h3] <;> omega
  simp [md, hb, hp]

set_option maxHeartbeats 400000 in
theorem rmod_any (a b : Int) (w : World) : Calls Tryd.prog 17 #[.int .i64 a, .int .i64 b] w fun e w' => e = .returned (.tuple #[.int .i64 (md a b), .int .i64 (ez b)]) ∧ w' = w := by
  by_cases hb : b = 0
  · subst hb
    go_enter Tryd.func17, Tryd.ntmps17
    go_wp2
    go_ret2
    exact ⟨rfl, rfl⟩
  · have hb' : (b == 0) = false := by simpa using hb
    have he : ez b = 0 := by simp [ez, hb]
    rw [he]
    clear he
    by_cases h1 : b = -1
    · subst h1
      have hq : md a (-1) = 0 := by simp [md, apB]
      rw [hq]
      clear hq
      go_enter Tryd.func17, Tryd.ntmps17
      go_wp2
      go_ret2
      exact ⟨rfl, rfl⟩
    · have h1' : (b == -1) = false := by simpa using h1
      go_enter Tryd.func17, Tryd.ntmps17
      go_wp2
      all_goals go_ret2
      all_goals first | exact ⟨ret2 (md_no a b hb (by omega)) rfl, rfl⟩ | exact ⟨ret2 (md_yes a b hb (by omega)) rfl, rfl⟩

#print axioms div_any
#print axioms rdiv_any
#print axioms rmod_any
end Go.Proofs.YtoecfpedpibfiabDoor
