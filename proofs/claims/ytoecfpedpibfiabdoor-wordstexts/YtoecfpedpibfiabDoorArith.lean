/- Plain arithmetic of whole numbers of 64 bits, for the layer 'words': the quotient rounded towards nought and its rest, put right; no program in it. -/
import Derived.WalkKit
import Derived.WalkSpells
namespace Go.Proofs.YtoecfpedpibfiabDoor
open Go.RowKit

/-- The rest rounded towards nought, its size and its sign. -/
theorem tm_facts (a b : Int) (hb : b ≠ 0) : b * a.tdiv b + a.tmod b = a ∧ (a.tmod b).natAbs < b.natAbs ∧ (0 ≤ a → 0 ≤ a.tmod b) ∧ (a ≤ 0 → a.tmod b ≤ 0) := by
  refine ⟨Int.mul_tdiv_add_tmod a b, ?_, fun h => Int.tmod_nonneg b h, fun h => ?_⟩
  · rw [Int.natAbs_tmod]
    exact Nat.mod_lt _ (by omega)
  · have := Int.tmod_nonneg (a := -a) b (by omega)
    rw [Int.neg_tmod] at this
    omega

/-- How great the quotient is. -/
theorem td_bound (a b : Int) : (a.tdiv b).natAbs ≤ a.natAbs := by
  rw [Int.natAbs_tdiv]
  exact Nat.div_le_self _ _

theorem wrap64_id (x : Int) (h0 : -9223372036854775808 ≤ x) (h1 : x ≤ 9223372036854775807) : wrap64 x = x := by
  unfold wrap64; omega

#print axioms tm_facts
end Go.Proofs.YtoecfpedpibfiabDoor
