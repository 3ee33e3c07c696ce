/- The walks of Add, Sub, Mul, Neg, Div and Mod, the code's and the reference's: what each answers, as plain functions. -/
import Derived.Test.YtoecfpedpibfiacDoorArith
import Derived.Test.YtoecfpedpibfiacDoorRows
import Derived.WalkKit
import Derived.WalkSpells
import Derived.WalkLawsBesides
namespace Go.Proofs.YtoecfpedpibfiacDoor
open Go.RowKit

def apB (r b : Int) : Bool := decide (r ≠ 0) && (decide (r < 0) != decide (b < 0))
def qd (a b : Int) : Int := if b = 0 then 0 else if apB (a.tmod b) b = true then wrap64 (wrap64 (a.tdiv b) - 1) else wrap64 (a.tdiv b)
def md (a b : Int) : Int := if b = 0 then 0 else if apB (a.tmod b) b = true then wrap64 (a.tmod b + b) else a.tmod b
def ez (b : Int) : Int := if b = 0 then 7 else 0

theorem ret2 {a b c d : Int} (h : a = b) (h' : c = d) : Ending.returned (.tuple #[.int .i64 a, .int .i64 c]) = .returned (.tuple #[.int .i64 b, .int .i64 d]) := by rw [h, h']

set_option maxHeartbeats 400000 in
theorem apart_any (r b : Int) (w : World) : Calls Tryd.prog 17 #[.int .i64 r, .int .i64 b] w fun e w' => e = .returned (.bool (apB r b)) ∧ w' = w := by
  go_enter Tryd.func17, Tryd.ntmps17
  go_wp2
  · go_ret
    rename_i h0
    exact ⟨by simp [apB, h0], rfl⟩
  · go_ret
    refine ⟨?_, rfl⟩
    have : (r != 0) = decide (r ≠ 0) := by simp [bne, Bool.not_eq_eq_eq_not, decide_not]; rfl
    simp [apB, this]
    cases decide (r < 0) <;> cases decide (b < 0) <;> rfl

set_option maxHeartbeats 400000 in
theorem div_any (a b : Int) (w : World) : Calls Tryd.prog 13 #[.int .i64 a, .int .i64 b] w fun e w' => e = .returned (.tuple #[.int .i64 (qd a b), .int .i64 (ez b)]) ∧ w' = w := by
  by_cases hb : b = 0
  · subst hb
    go_enter Tryd.func13, Tryd.ntmps13
    go_wp2
    go_ret2
    exact ⟨rfl, rfl⟩
  · have hb' : (b == 0) = false := by simpa using hb
    cases h : apB (a.tmod b) b
    · have hq : qd a b = wrap64 (a.tdiv b) := by simp [qd, hb, h]
      have he : ez b = 0 := by simp [ez, hb]
      rw [hq, he]
      clear hq he
      go_enter Tryd.func13, Tryd.ntmps13
      go_wp2_with (go_at_call 17; refine (apart_any _ _ _).mono ?_; rintro e w' ⟨rfl, rfl⟩)
      go_ret2
      exact ⟨rfl, rfl⟩
    · have hq : qd a b = wrap64 (wrap64 (a.tdiv b) - 1) := by simp [qd, hb, h]
      have he : ez b = 0 := by simp [ez, hb]
      rw [hq, he]
      clear hq he
      go_enter Tryd.func13, Tryd.ntmps13
      go_wp2_with (go_at_call 17; refine (apart_any _ _ _).mono ?_; rintro e w' ⟨rfl, rfl⟩)
      go_ret2
      exact ⟨rfl, rfl⟩

#print axioms div_any
end Go.Proofs.YtoecfpedpibfiacDoor
