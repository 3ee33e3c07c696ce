/- The walks of the reference's Place and Main. -/
import Derived.Test.YtbkgbojfjijalabMain
namespace Go.Proofs.Ytbkgbojfjijalab
open Go.RowKit

theorem wtm (x d : Int) (h : 1 ≤ d) (h' : d ≤ 65536) : wrap64 ((IntKind.u64.wrap x).tmod d) = (x % 18446744073709551616) % d := by
  rw [IntKind.wrap_u64]
  have q0 : 0 ≤ x % 18446744073709551616 := by omega
  rw [Int.tmod_eq_emod_of_nonneg q0]
  have q1 := Int.emod_nonneg (x % 18446744073709551616) (show d ≠ 0 by omega)
  have q2 := Int.emod_lt_of_pos (x % 18446744073709551616) (show 0 < d by omega)
  unfold wrap64; omega
theorem wtm2 (n k d : Int) (h : 1 ≤ d) (h' : d ≤ 65536) : wrap64 ((IntKind.u64.wrap (IntKind.u64.wrap (n * 4) + k)).tmod d) = ((4 * n + k) % 18446744073709551616) % d := by
  rw [wtm _ _ h h', IntKind.wrap_u64]
  congr 1; omega

end Go.Proofs.Ytbkgbojfjijalab
