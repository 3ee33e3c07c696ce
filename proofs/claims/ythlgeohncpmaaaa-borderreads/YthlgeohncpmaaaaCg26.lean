/- Pair at the last place of the array, and at none. -/
import Derived.Test.YthlgeohncpmaaaaCg22
namespace Go.Proofs.Ythlgeohncpmaaaa
open Go.RowKit

set_option maxRecDepth 20000 in
theorem pair_zero (T : Nat) (w : World) : Calls Try.prog 18 #[tp T, .int .i64 0] w fun e w' => e = .returned (.tuple #[vv nil, vv nil]) ∧ Below w.heap.size w w' := by
  have HB : Hid _ := b2 w (.cells #[.int .i64 0, .int .i64 0, .string ⟨#[]⟩] 31) (.cells #[.int .i64 0, .int .i64 0, .string ⟨#[]⟩] 31)
  unfold vv vl tp
  go_enter Try.func18, Try.ntmps18
  go_wp2
  refine bodyPost_ret (v := .tuple #[.agg #[.int .i64 0, .int .i64 0, .string ⟨#[]⟩], .agg #[.int .i64 0, .int .i64 0, .string ⟨#[]⟩]]) (by simp [results, Try.results18, go_sem]) rfl ⟨rfl, ?_⟩
  first | exact HB.out | (simp; exact HB.out)
theorem pair_last {P : Nat → Prop} {W w : World} {X : Nat} {xs : Value} {T S hb c : Nat} {t : TS} {s : H.St} (h : Bs P W w X xs T S hb c t s) :
    Calls Try.prog 18 #[tp T, .int .i64 (t.p.n : Nat)] w fun e w' => ∃ y z : V, e = .returned (.tuple #[vv y, vv z]) ∧ Below w.heap.size w w' ∧ (t.p.n ≠ 0 → sl t.p t.p.n = (z.1 != 0)) := by
  by_cases hn : t.p.n = 0
  · rw [hn]
    exact (pair_zero T w).mono fun e w' hh => ⟨nil, nil, hh.1, hh.2, fun q => absurd rfl q⟩
  · exact (h.pair (t.p.n : Nat) (by omega) (by omega)).mono fun e w' hh => ⟨_, _, hh.1, hh.2, fun _ => by rw [bne_dec]; rfl⟩
end Go.Proofs.Ythlgeohncpmaaaa
