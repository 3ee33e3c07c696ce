/- The walk of the reference's Mul, by halves. -/
import Derived.Test.YtoecfpedpibfiabDoorFix
import Derived.Laws.BitsAllLaws
namespace Go.Proofs.YtoecfpedpibfiabDoor
open Go.RowKit

theorem and_low (x : Int) (h0 : 0 ≤ x) (h1 : x < 18446744073709551616) : bits .and .u64 x 4294967295 = x % 4294967296 := by
  rw [u64_and x 4294967295 h0 h1 (by omega) (by omega)]
  have h : x.toNat &&& (4294967295 : Int).toNat = x.toNat % 4294967296 := Nat.and_two_pow_sub_one_eq_mod x.toNat 32
  rw [h]; omega

theorem wrap64_congr {x y : Int} (h : x % 18446744073709551616 = y % 18446744073709551616) : wrap64 x = wrap64 y := by
  unfold wrap64; omega

theorem halves (a b A B : Int) (hA : A % 18446744073709551616 = a % 18446744073709551616) (hB : B % 18446744073709551616 = b % 18446744073709551616) :
    ((A % 4294967296 * (B % 4294967296)) % 18446744073709551616 + (((A / 4294967296 * (B % 4294967296)) % 18446744073709551616 + (A % 4294967296 * (B / 4294967296)) % 18446744073709551616) % 18446744073709551616 * 4294967296) % 18446744073709551616) % 18446744073709551616
      = (a * b) % 18446744073709551616 := by
  have e1 : ((A % 4294967296 * (B % 4294967296)) % 18446744073709551616 + (((A / 4294967296 * (B % 4294967296)) % 18446744073709551616 + (A % 4294967296 * (B / 4294967296)) % 18446744073709551616) % 18446744073709551616 * 4294967296) % 18446744073709551616) % 18446744073709551616
      = (A % 4294967296 * (B % 4294967296) + (A / 4294967296 * (B % 4294967296) + A % 4294967296 * (B / 4294967296)) * 4294967296) % 18446744073709551616 := by
    generalize A % 4294967296 * (B % 4294967296) = p
    generalize A / 4294967296 * (B % 4294967296) = q
    generalize A % 4294967296 * (B / 4294967296) = r
    omega
  have e2 : (a * b) % 18446744073709551616 = (A * B) % 18446744073709551616 := by rw [Int.mul_emod a b, ← hA, ← hB, ← Int.mul_emod]
  rw [e1, e2]
  have eA : A = A / 4294967296 * 4294967296 + A % 4294967296 := by omega
  have eB : B = B / 4294967296 * 4294967296 + B % 4294967296 := by omega
  have e3 : A * B = (A % 4294967296 * (B % 4294967296) + (A / 4294967296 * (B % 4294967296) + A % 4294967296 * (B / 4294967296)) * 4294967296) + 18446744073709551616 * (A / 4294967296 * (B / 4294967296)) := by
    generalize A / 4294967296 = x at *
    generalize A % 4294967296 = y at *
    generalize B / 4294967296 = u at *
    generalize B % 4294967296 = v at *
    subst eA eB
    grind
  rw [e3, Int.add_mul_emod_self_left]

set_option maxHeartbeats 1000000 in
theorem rmul_any (a b : Int) (w : World) : Calls Tryd.prog 14 #[.int .i64 a, .int .i64 b] w fun e w' => e = .returned (.int .i64 (wrap64 (a * b))) ∧ w' = w := by
  go_enter Tryd.func14, Tryd.ntmps14
  go_wp2
  go_ret
  refine ⟨?_, rfl⟩
  have hA := and_low (IntKind.u64.wrap a) (by rw [IntKind.wrap_u64]; omega) (by rw [IntKind.wrap_u64]; omega)
  have hB := and_low (IntKind.u64.wrap b) (by rw [IntKind.wrap_u64]; omega) (by rw [IntKind.wrap_u64]; omega)
  refine congrArg (fun z => Ending.returned (.int .i64 z)) (wrap64_congr ?_)
  rw [hA, hB]
  simp only [IntKind.wrap_u64]
  rw [Int.emod_emod_of_dvd _ (Int.dvd_refl _)]
  exact halves a b (a % 18446744073709551616) (b % 18446744073709551616) (by omega) (by omega)

#print axioms rmul_any
end Go.Proofs.YtoecfpedpibfiabDoor
