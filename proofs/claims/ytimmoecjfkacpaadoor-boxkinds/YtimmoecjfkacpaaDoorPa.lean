/- The walk of 'panics': Must, and a recover behind it. -/
import Derived.Test.YtimmoecjfkacpaaDoorMu
namespace Go.Proofs.YtimmoecjfkacpaaDoor
open Go.RowKit

theorem own_cell {w w' : World} (o : Obj) (x : Value) (t : TypeId) (h : Below ((w.alloc o).alloc (.cells #[x] t)).heap.size ((w.alloc o).alloc (.cells #[x] t)) w') : w'.cell? ⟨w.heap.size + 1, 0, none⟩ = some x ∧ w'.frozen? ⟨w.heap.size + 1, 0, none⟩ = false := by
  refine ⟨?_, ?_⟩
  · rw [h.cell (by simp)]; simp [go_sem]
  · rw [h.frozen (by simp)]; simp [go_sem]

set_option maxHeartbeats 1000000 in
theorem panics_yes (k n : Int) (s : ByteArray) (q : Int) (h0 : -9223372036854775808 ≤ n) (h1 : n ≤ 9223372036854775807) (h : fits k n s q = false) (w : World) :
    Calls Tryd.prog 37 #[vl k n s, .int .i64 q] w fun e w' => e = .returned (.bool true) ∧ Below w.heap.size w w' := by
  have hmf : ∀ (fn : Fn) (first cap : Array Value) (w : World), (Instr.makeFunc fn first cap).run Tryd.prog w = .ok (.func fn first cap) w := fun _ _ _ _ => rfl
  have C := Must_pan k n s q h0 h1 h
  clear h0 h1 h
  unfold vl at *
  go_enter_defers Tryd.func37, Tryd.ntmps37
  go_wp2_with (go_at_call 23; refine (C _).mono ?_; rintro e w' ⟨⟨u, pv, rfl⟩, hb⟩)
  obtain ⟨c1, c2⟩ := own_cell _ _ _ hb
  refine leaves_cons (f := 46) (args := #[.pointer (some ⟨w.heap.size + 1, 0, none⟩)]) (by simp) (by simp [go_sem]) ?_
  refine (catch_panicking ⟨w.heap.size + 1, 0, none⟩ false u pv [] _ c1 c2).mono ?_
  rintro e u' w'' ⟨rfl, rfl, rfl⟩
  have bb : Below w.heap.size w w' := bthen (b2 _ _ _) (by simp; omega) hb
  simp [Leaves, settle, results, Tryd.results37, go_sem, c1]
  exact bb.setCell (by simp) _

set_option maxHeartbeats 1000000 in
theorem panics_no (k n : Int) (s : ByteArray) (q : Int) (h0 : -9223372036854775808 ≤ n) (h1 : n ≤ 9223372036854775807) (h : fits k n s q = true) (w : World) :
    Calls Tryd.prog 37 #[vl k n s, .int .i64 q] w fun e w' => e = .returned (.bool false) ∧ Below w.heap.size w w' := by
  have hmf : ∀ (fn : Fn) (first cap : Array Value) (w : World), (Instr.makeFunc fn first cap).run Tryd.prog w = .ok (.func fn first cap) w := fun _ _ _ _ => rfl
  have C := Must_val k n s q h0 h1 h
  clear h0 h1 h
  unfold vl at *
  go_enter_defers Tryd.func37, Tryd.ntmps37
  go_wp2_with (go_at_call 23; refine (C _).mono ?_; rintro e w' ⟨rfl, hb⟩; have c1 := (own_cell _ _ _ hb).1; have c2 := (own_cell _ _ _ hb).2)
  have bb : Below w.heap.size w w' := bthen (b2 _ _ _) (by simp; omega) hb
  refine leaves_cons (f := 46) (args := #[.pointer (some ⟨w.heap.size + 1, 0, none⟩)]) (by simp) (by simp [go_sem]) ?_
  refine (catch_idle ⟨w.heap.size + 1, 0, none⟩ _).mono ?_
  rintro e u' w'' ⟨rfl, rfl, rfl⟩
  simp [Leaves, settle, results, Tryd.results37, go_sem, c1]
  exact bb.setCell (by simp) _
theorem panics_any (k n : Int) (s : ByteArray) (q : Int) (h0 : -9223372036854775808 ≤ n) (h1 : n ≤ 9223372036854775807) (w : World) :
    Calls Tryd.prog 37 #[vl k n s, .int .i64 q] w fun e w' => e = .returned (.bool (!fits k n s q)) ∧ Below w.heap.size w w' := by
  cases h : fits k n s q
  · exact panics_yes k n s q h0 h1 h w
  · exact panics_no k n s q h0 h1 h w

end Go.Proofs.YtimmoecjfkacpaaDoor
