/- Lists of whole numbers in memory, and the walk of the reference's comparison of two that are equal. -/
import Derived.Test.YtimmoecjfkacpabFix
import Derived.RegionTactic
import Derived.Laws.MakeOwn
import Derived.OwnWalk
namespace Go.Proofs.Ytimmoecjfkacpab
open Go.RowKit

/-- The value reads as the list, in blocks from B on and below N. -/
def Ints (B N : Nat) (w : World) (v : Value) (l : List Int) : Prop :=
  ∃ a cap, v = .slice a l.length cap ∧ (l ≠ [] → ∃ g, a = some ⟨g, 0, none⟩ ∧ (B ≤ g ∧ g < N) ∧ ∀ i, i < l.length → w.cell? ⟨g, i, none⟩ = some (.int .i64 (l.getD i 0)))

theorem Ints.keep {B N : Nat} {w w' : World} {v : Value} {l : List Int} (h : Ints B N w v l) (hb : ∀ g, B ≤ g → g < N → w'.heap[g]? = w.heap[g]?) : Ints B N w' v l := by
  obtain ⟨a, cap, rfl, h⟩ := h
  refine ⟨a, cap, rfl, fun hl => ?_⟩
  obtain ⟨g, rfl, hg, hc⟩ := h hl
  exact ⟨g, rfl, hg, fun i hi => by rw [World.cell?_of_block (w := w) (hb g hg.1 hg.2)]; exact hc i hi⟩
theorem Ints.below {B N : Nat} {w w' : World} {v : Value} {l : List Int} (h : Ints B N w v l) (hb : Below N w w') : Ints B N w' v l := h.keep fun g _ hg => hb.block g hg
theorem Ints.mono {B N N' : Nat} {w : World} {v : Value} {l : List Int} (h : Ints B N w v l) (hN : N ≤ N') : Ints B N' w v l := by
  obtain ⟨a, cap, rfl, h⟩ := h
  refine ⟨a, cap, rfl, fun hl => ?_⟩
  obtain ⟨g, rfl, hg, hc⟩ := h hl
  exact ⟨g, rfl, by omega, hc⟩

set_option maxHeartbeats 1000000 in
theorem same_some (l : List Int) (g g' cap cap' : Nat) (w : World) (hg : g < w.heap.size) (hg' : g' < w.heap.size) (hlen : l.length ≤ 1000)
    (hc : ∀ i, i < l.length → w.cell? ⟨g, i, none⟩ = some (.int .i64 (l.getD i 0))) (hc' : ∀ i, i < l.length → w.cell? ⟨g', i, none⟩ = some (.int .i64 (l.getD i 0))) :
    Calls Try.prog 15 #[.slice (some ⟨g, 0, none⟩) l.length cap, .slice (some ⟨g', 0, none⟩) l.length cap'] w fun e w' => e = .returned (.bool true) ∧ Below w.heap.size w w' := by
  have HC : Hid _ := hc
  have HC' : Hid _ := hc'
  clear hc hc'
  obtain ⟨L, hL⟩ : ∃ L, l.length = L := ⟨_, rfl⟩
  rw [hL] at HC HC' hlen ⊢
  clear hL
  go_enter Try.func15, Try.ntmps15
  go_wp2
  go_loopw [5] (fun i wr => ∃ k : Nat, i = .int .i64 k ∧ k ≤ L ∧ Below w.heap.size w wr) (fun i _ => L - (intOf i).toNat)
  case atStart => exact ⟨0, rfl, by omega, Below.refl _ _⟩
  case round =>
    obtain ⟨k, rfl, hk, hb⟩ := hrel
    by_cases hlt : k < L
    · have hlt' : (k : Int) < (L : Int) := by omega
      have c1 : wr.cell? ⟨g, k, none⟩ = some (.int .i64 (l.getD k 0)) := by rw [hb.cell (by exact hg)]; exact HC.out k hlt
      have c2 : wr.cell? ⟨g', k, none⟩ = some (.int .i64 (l.getD k 0)) := by rw [hb.cell (by exact hg')]; exact HC'.out k hlt
      generalize l.getD k 0 = x at c1 c2
      go_wp2
      go_region
      go_wp2
      go_roundw
      case rel => exact ⟨k + 1, by go_num, by omega, hb.drew⟩
      case measure => simp [intOf]; omega
    · go_wp2
      go_ret
      exact ⟨rfl, hb⟩

set_option maxHeartbeats 600000 in
theorem same_none (a a' : Option Addr) (cap cap' : Nat) (w : World) :
    Calls Try.prog 15 #[.slice a 0 cap, .slice a' 0 cap'] w fun e w' => e = .returned (.bool true) ∧ Below w.heap.size w w' := by
  go_enter Try.func15, Try.ntmps15
  go_wp2
  refine wp_loop_rounds 1 ?_
  rw [rounds_succ]
  go_wp2
  go_ret
  exact ⟨rfl, Below.refl _ _⟩

theorem same_any (l : List Int) (v v' : Value) (w : World) {B B' : Nat} (h : Ints B w.heap.size w v l) (h' : Ints B' w.heap.size w v' l) (hlen : l.length ≤ 1000) :
    Calls Try.prog 15 #[v, v'] w fun e w' => e = .returned (.bool true) ∧ Below w.heap.size w w' := by
  obtain ⟨a, cap, rfl, h⟩ := h
  obtain ⟨a', cap', rfl, h'⟩ := h'
  by_cases hl : l = []
  · subst hl
    exact same_none a a' cap cap' w
  · obtain ⟨g, rfl, hg, hc⟩ := h hl
    obtain ⟨g', rfl, hg', hc'⟩ := h' hl
    exact same_some l g g' cap cap' w hg.2 hg'.2 hlen hc hc'

end Go.Proofs.Ytimmoecjfkacpab
