/- The walk of same: two rows of nodes that are alike. -/
import Derived.Test.YtbkgbojfjijalaaCh
namespace Go.Proofs.Ytbkgbojfjijalaa
open Go.RowKit

set_option maxRecDepth 100000 in
set_option maxHeartbeats 4000000 in
theorem same_any {D1 D2 n c1 c2 : Nat} {g : G} (w : World) (h1 : Rc w D1 n (nf (pl n) g)) (h2 : Rc w D2 n (nf (pl n) g)) (hn : n ≤ 65536) :
    Calls Try.prog 23 #[.slice (some ⟨D1, 0, none⟩) n c1, .slice (some ⟨D2, 0, none⟩) n c2] w fun e w' => e = .returned (.bool true) ∧ Below w.heap.size w w' := by
  have H1 : Hid (∀ w', Below w.heap.size w w' → Rc w' D1 n (nf (pl n) g) ∧ Rc w' D2 n (nf (pl n) g)) := fun w' hw => by
    by_cases q1 : D1 < w.heap.size
    · by_cases q2 : D2 < w.heap.size
      · exact ⟨h1.block (hw.block D1 q1), h2.block (hw.block D2 q2)⟩
      · by_cases q3 : n = 0
        · exact ⟨h1.block (hw.block D1 q1), ⟨fun i hi => by omega⟩⟩
        · have := World.block_lt_of_cell? w _ (h2.c 0 (by omega) 0 (by omega)); exact absurd this q2
    · by_cases q3 : n = 0
      · exact ⟨⟨fun i hi => by omega⟩, ⟨fun i hi => by omega⟩⟩
      · have := World.block_lt_of_cell? w _ (h1.c 0 (by omega) 0 (by omega)); exact absurd this q1
  clear h1 h2
  go_enter Try.func23, Try.ntmps23
  go_wp2_with fail
  go_loopw [5] (fun iw wr => ∃ i : Nat, iw = .int .i64 (i : Nat) ∧ i ≤ n ∧ Hid (Below w.heap.size w wr)) (fun iw _ => n - (intOf iw).toNat)
  case atStart => exact ⟨0, rfl, by omega, Below.refl _ _⟩
  case round =>
    obtain ⟨i, rfl, hi, HB⟩ := hrel
    by_cases hlt : i < n
    · have hlt' : (i : Int) < (n : Int) := by omega
      obtain ⟨r1, r2⟩ := H1.out wr HB.out
      have a0 : wr.cell? ⟨D1, i * 7, none⟩ = some (.int .i64 (g.K i).1) := r1.c i hlt 0 (by omega)
      have a1 : wr.cell? ⟨D1, i * 7 + 1, none⟩ = some (.int .i64 (g.K i).2.1) := r1.c i hlt 1 (by omega)
      have a2 : wr.cell? ⟨D1, i * 7 + 2, none⟩ = some (.string (g.K i).2.2) := r1.c i hlt 2 (by omega)
      have a3 : wr.cell? ⟨D1, i * 7 + 3, none⟩ = some (.int .i64 (g.X i).1) := r1.c i hlt 3 (by omega)
      have a4 : wr.cell? ⟨D1, i * 7 + 4, none⟩ = some (.int .i64 (g.X i).2.1) := r1.c i hlt 4 (by omega)
      have a5 : wr.cell? ⟨D1, i * 7 + 5, none⟩ = some (.string (g.X i).2.2) := r1.c i hlt 5 (by omega)
      have a6 : wr.cell? ⟨D1, i * 7 + 6, none⟩ = some (.int .i64 (link (pl n) g i)) := r1.c i hlt 6 (by omega)
      have b0 : wr.cell? ⟨D2, i * 7, none⟩ = some (.int .i64 (g.K i).1) := r2.c i hlt 0 (by omega)
      have b1 : wr.cell? ⟨D2, i * 7 + 1, none⟩ = some (.int .i64 (g.K i).2.1) := r2.c i hlt 1 (by omega)
      have b2 : wr.cell? ⟨D2, i * 7 + 2, none⟩ = some (.string (g.K i).2.2) := r2.c i hlt 2 (by omega)
      have b3 : wr.cell? ⟨D2, i * 7 + 3, none⟩ = some (.int .i64 (g.X i).1) := r2.c i hlt 3 (by omega)
      have b4 : wr.cell? ⟨D2, i * 7 + 4, none⟩ = some (.int .i64 (g.X i).2.1) := r2.c i hlt 4 (by omega)
      have b5 : wr.cell? ⟨D2, i * 7 + 5, none⟩ = some (.string (g.X i).2.2) := r2.c i hlt 5 (by omega)
      have b6 : wr.cell? ⟨D2, i * 7 + 6, none⟩ = some (.int .i64 (link (pl n) g i)) := r2.c i hlt 6 (by omega)
      have N1 := neq32 (g.K i).1 (g.K i).2.1 (g.K i).1 (g.K i).2.1 (g.K i).2.2 (g.K i).2.2
      have N2 := neq32 (g.X i).1 (g.X i).2.1 (g.X i).1 (g.X i).2.1 (g.X i).2.2 (g.X i).2.2
      simp only [decide_true, Bool.not_true] at N1 N2
      unfold vl at N1 N2
      have g32 := guard32
      clear r1 r2
      go_wp2_with fail
      go_quiet (fail)
      go_wp2_with fail
      go_round
      case rel => exact ⟨i + 1, by go_num, by omega, HB.out.trans (bdrew _ _ _)⟩
      case measure => simp [intOf]; omega
    · have hlt' : ¬ (i : Int) < (n : Int) := by omega
      go_wp2_with fail
      go_ret
      exact ⟨rfl, HB.out⟩
end Go.Proofs.Ytbkgbojfjijalaa
