/- The walk of part. -/
import Derived.Test.YtcaaaoehipcloaaGreatCg24
import Derived.Test.YtcaaaoehipcloaaGreatCg25
import Derived.BigRegion
import Derived.Deep.DeepCutAuto
namespace Go.Proofs.YtcaaaoehipcloaaGreat
open Go.RowKit

theorem part_any {No : Nat → Prop} {w : World} {B : Nat} {wv : Value} {T A b a S hb c : Nat} {d : SD} (h : So No w B wv T A b a S hb c d) (hc : c ≤ 500000) (b1 : -2305843009213693952 ≤ d.1.lo) (b2 : d.1.lo ≤ 2305843009213693952) (b3 : -2305843009213693952 ≤ d.1.up) (b4 : d.1.up ≤ 2305843009213693952) (b7 : -2305843009213693952 ≤ d.1.i) (b8 : d.1.i ≤ 2305843009213693952) (hwl : d.1.wt.length ≤ 900000) (hr : ∀ r ∈ d.1.wt, r.1 < r.2 → -4611686018427387904 ≤ r.1 ∧ r.2 ≤ 4611686018427387904) :
    Calls Tryz.prog 75 #[.pointer (some ⟨B, 0, none⟩)] w (GP No w B T S hb (c + 18) (partR d)) := by
  by_cases hcd : d.1.up - d.1.i ≤ d.1.i - d.1.lo
  · exact part_le h hc b1 b2 b3 b4 b7 b8 hwl hr hcd
  · exact part_gt h hc b1 b2 b3 b4 b7 b8 hwl hr hcd
end Go.Proofs.YtcaaaoehipcloaaGreat
