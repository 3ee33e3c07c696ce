/- The walks of the heap's small calls: New, Live, Laid, room, again, lay. -/
import Derived.Test.YteknjkofmkigoabHp
namespace Go.Proofs.Yteknjkofmkigoab.H
open Go.RowKit

theorem cell_row {w : World} {g : Nat} {cs : Array Value} {t : TypeId} (h : w.heap[g]? = some (.cells cs t (0, 0))) (i : Nat) : w.cell? ⟨g, i, none⟩ = cs[i]? := by
  unfold World.cell?
  rw [h]
  simp
theorem free_row {w : World} {g : Nat} {cs : Array Value} {t : TypeId} (h : w.heap[g]? = some (.cells cs t (0, 0))) (i : Nat) : w.frozen? ⟨g, i, none⟩ = false := by
  unfold World.frozen?
  rw [h]
  simp
theorem retB {x b : Bool} (h : x = b) : Ending.returned (.bool b) = .returned (.bool x) := by rw [h]
theorem ret1 {a b : Int} (h : a = b) : Ending.returned (.int .i64 a) = .returned (.int .i64 b) := by rw [h]

section
variable {No : Nat → Prop} {w : World} {S b c : Nat} {vb : Value} {s : St}
theorem Hp.c0 (h : Hp No w S b c vb s) : w.cell? ⟨S, 0, none⟩ = some (.int .i64 s.lim) := cell_row h.str 0
theorem Hp.c1 (h : Hp No w S b c vb s) : w.cell? ⟨S, 1, none⟩ = some (.int .i64 s.live) := cell_row h.str 1
theorem Hp.c2 (h : Hp No w S b c vb s) : w.cell? ⟨S, 2, none⟩ = some (.int .i64 s.laid) := cell_row h.str 2
theorem Hp.c3 (h : Hp No w S b c vb s) : w.cell? ⟨S, 3, none⟩ = some vb := cell_row h.str 3
theorem Hp.c4 (h : Hp No w S b c vb s) : w.cell? ⟨S, 4, none⟩ = some (.map (some b)) := cell_row h.str 4
theorem Hp.fr (h : Hp No w S b c vb s) (i : Nat) : w.frozen? ⟨S, i, none⟩ = false := free_row h.str i
end

set_option maxHeartbeats 400000 in
theorem live_any (w : World) (S : Nat) (x : Int) (h : w.cell? ⟨S, 1, none⟩ = some (.int .i64 x)) : Calls Try.prog 21 #[.pointer (some ⟨S, 0, none⟩)] w fun e w' => e = .returned (.int .i64 x) ∧ w' = w := by
  go_enter Try.func21, Try.ntmps21
  go_wp2
  go_ret
  exact ⟨rfl, rfl⟩
set_option maxHeartbeats 400000 in
theorem laid_any (w : World) (S : Nat) (x : Int) (h : w.cell? ⟨S, 2, none⟩ = some (.int .i64 x)) : Calls Try.prog 22 #[.pointer (some ⟨S, 0, none⟩)] w fun e w' => e = .returned (.int .i64 x) ∧ w' = w := by
  go_enter Try.func22, Try.ntmps22
  go_wp2
  go_ret
  exact ⟨rfl, rfl⟩
set_option maxHeartbeats 400000 in
theorem room_neg (w : World) (S : Nat) (n : Int) (h : n < 0) : Calls Try.prog 38 #[.pointer (some ⟨S, 0, none⟩), .int .i64 n] w fun e w' => e = .returned (.int .i64 1) ∧ w' = w := by
  go_enter Try.func38, Try.ntmps38
  go_wp2
  go_ret
  exact ⟨rfl, rfl⟩
set_option maxHeartbeats 400000 in
theorem room_pos (w : World) (S : Nat) (n x y : Int) (h : 0 ≤ n) (c0 : w.cell? ⟨S, 0, none⟩ = some (.int .i64 x)) (c1 : w.cell? ⟨S, 1, none⟩ = some (.int .i64 y)) (hx0 : 0 ≤ x) (hx1 : x ≤ 400000) (hy0 : 0 ≤ y) (hy1 : y ≤ x) :
    Calls Try.prog 38 #[.pointer (some ⟨S, 0, none⟩), .int .i64 n] w fun e w' => e = .returned (.int .i64 (if x - y < n then 10 else 0)) ∧ w' = w.drew := by
  by_cases hq : x - y < n
  · rw [if_pos hq]
    go_enter Try.func38, Try.ntmps38
    go_wp2
    go_region
    all_goals
      go_wp2
      go_ret
      exact ⟨rfl, rfl⟩
  · rw [if_neg hq]
    go_enter Try.func38, Try.ntmps38
    go_wp2
    go_region
    all_goals
      go_wp2
      go_ret
      exact ⟨rfl, rfl⟩

set_option maxHeartbeats 400000 in
theorem new_bad (w : World) (n : Int) (h : n < 0 ∨ 400000 < n) : Calls Try.prog 20 #[.int .i64 n] w fun e w' => e = .returned (.tuple #[.pointer none, .int .i64 1]) ∧ w' = w := by
  rcases h with h | h
  · go_enter Try.func20, Try.ntmps20
    go_wp2
    go_ret2
    exact ⟨rfl, rfl⟩
  · have h0 : ¬ n < 0 := by omega
    go_enter Try.func20, Try.ntmps20
    go_wp2
    go_ret2
    exact ⟨rfl, rfl⟩
set_option maxHeartbeats 400000 in
theorem new_walk (w : World) (n : Int) (h0 : 0 ≤ n) (h1 : n ≤ 400000) : Calls Try.prog 20 #[.int .i64 n] w fun e w' => e = .returned (.tuple #[.pointer (some ⟨w.heap.size + 1, 0, none⟩), .int .i64 0]) ∧
    w' = (w.alloc (.map #[] 0)).alloc (.cells #[.int .i64 n, .int .i64 0, .int .i64 0, .slice none 0 0, .map (some w.heap.size)] 70) := by
  have hmm := @run_makeMap Try.prog
  go_enter Try.func20, Try.ntmps20
  go_wp2
  go_ret2
  exact ⟨rfl, rfl⟩
end Go.Proofs.Yteknjkofmkigoab.H
