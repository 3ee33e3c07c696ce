/- Type assertions among the boxes' types, and the walks of take, as, must and isKind. -/
import Derived.Test.YtimmoecjfkacpaaDoorBx
namespace Go.Proofs.YtimmoecjfkacpaaDoor
open Go.RowKit

theorem ta_yes (t : TypeId) (v : Value) (w : World) (u : TypeDesc) (hu : Tryd.prog.underlying t = some u) (hn : ∀ ms, u ≠ .interface ms) : (Instr.typeAssert (.iface t v) 20 t true).run Tryd.prog w = .ok (.tuple #[v, .bool true]) w := by
  unfold Instr.typeAssert
  cases u <;> simp_all [run_underlying hu, go_sem, Result.andThen]
theorem ta_no (t a : TypeId) (v z : Value) (w : World) (u : TypeDesc) (hu : Tryd.prog.underlying a = some u) (hn : ∀ ms, u ≠ .interface ms) (hz : ∀ w, (zeroValue a).run Tryd.prog w = .ok z w) (h : ¬ t = a) : (Instr.typeAssert (.iface t v) 20 a true).run Tryd.prog w = .ok (.tuple #[z, .bool false]) w := by
  unfold Instr.typeAssert
  cases u <;> simp_all [run_underlying hu, go_sem, Result.andThen]
theorem tm_yes (t : TypeId) (v : Value) (w : World) (u : TypeDesc) (hu : Tryd.prog.underlying t = some u) (hn : ∀ ms, u ≠ .interface ms) : (Instr.typeAssert (.iface t v) 20 t false).run Tryd.prog w = .ok v w := by
  unfold Instr.typeAssert
  cases u <;> simp_all [run_underlying hu, go_sem, Result.andThen]
/-- What the run-time's error of a failed assertion holds. -/
noncomputable def tah (t a : TypeId) : Obj := .cells #[typeHandle Tryd.prog 20, typeHandle Tryd.prog t, typeHandle Tryd.prog a, strVal ""] 102
theorem elem15 (w : World) : (elemOf 15).run Tryd.prog w = .ok 102 w := by kernel_rfl
theorem tm_no (t a : TypeId) (v : Value) (w : World) (u : TypeDesc) (hu : Tryd.prog.underlying a = some u) (hn : ∀ ms, u ≠ .interface ms) (h : ¬ t = a) : (Instr.typeAssert (.iface t v) 20 a false).run Tryd.prog w = .halt (.panic (.iface 15 (.pointer (some ⟨w.heap.size, 0, none⟩)))) (w.alloc (tah t a)) := by
  unfold Instr.typeAssert tah
  have he := elem15 w
  cases u <;> simp_all [run_underlying hu, go_sem, Result.andThen, runtimePanic]

theorem isKind_any (k : Int) (w : World) : Calls Tryd.prog 38 #[.int .i64 k] w fun e w' => e = .returned (.bool (decide (0 ≤ k ∧ k ≤ 6))) ∧ w' = w := by
  go_enter Tryd.func38, Tryd.ntmps38
  go_wp2
  all_goals (go_ret; exact ⟨ret_bool (by first | (simp; done) | (simp; omega) | (rw [Bool.eq_iff_iff]; simp; omega)), rfl⟩)

theorem y54 (v : Value) (w : World) : (Instr.typeAssert (.iface 54 v) 20 54 true).run Tryd.prog w = .ok (.tuple #[v, .bool true]) w := ta_yes 54 v w _ Tryd.underlying54 (by intro ms h; cases h)
theorem n54 (t : TypeId) (h : ¬ t = 54) (v : Value) (w : World) : (Instr.typeAssert (.iface t v) 20 54 true).run Tryd.prog w = .ok (.tuple #[.agg #[], .bool false]) w := ta_no t 54 v _ w _ Tryd.underlying54 (by intro ms h; cases h) (fun w => by kernel_rfl) h
theorem my54 (v : Value) (w : World) : (Instr.typeAssert (.iface 54 v) 20 54 false).run Tryd.prog w = .ok v w := tm_yes 54 v w _ Tryd.underlying54 (by intro ms h; cases h)
theorem mn54 (t : TypeId) (h : ¬ t = 54) (v : Value) (w : World) : (Instr.typeAssert (.iface t v) 20 54 false).run Tryd.prog w = .halt (.panic (.iface 15 (.pointer (some ⟨w.heap.size, 0, none⟩)))) (w.alloc (tah t 54)) := tm_no t 54 v w _ Tryd.underlying54 (by intro ms h; cases h) h
theorem y55 (v : Value) (w : World) : (Instr.typeAssert (.iface 55 v) 20 55 true).run Tryd.prog w = .ok (.tuple #[v, .bool true]) w := ta_yes 55 v w _ Tryd.underlying55 (by intro ms h; cases h)
theorem n55 (t : TypeId) (h : ¬ t = 55) (v : Value) (w : World) : (Instr.typeAssert (.iface t v) 20 55 true).run Tryd.prog w = .ok (.tuple #[.bool false, .bool false]) w := ta_no t 55 v _ w _ Tryd.underlying55 (by intro ms h; cases h) (fun w => by kernel_rfl) h
theorem my55 (v : Value) (w : World) : (Instr.typeAssert (.iface 55 v) 20 55 false).run Tryd.prog w = .ok v w := tm_yes 55 v w _ Tryd.underlying55 (by intro ms h; cases h)
theorem mn55 (t : TypeId) (h : ¬ t = 55) (v : Value) (w : World) : (Instr.typeAssert (.iface t v) 20 55 false).run Tryd.prog w = .halt (.panic (.iface 15 (.pointer (some ⟨w.heap.size, 0, none⟩)))) (w.alloc (tah t 55)) := tm_no t 55 v w _ Tryd.underlying55 (by intro ms h; cases h) h
theorem y56 (v : Value) (w : World) : (Instr.typeAssert (.iface 56 v) 20 56 true).run Tryd.prog w = .ok (.tuple #[v, .bool true]) w := ta_yes 56 v w _ Tryd.underlying56 (by intro ms h; cases h)
theorem n56 (t : TypeId) (h : ¬ t = 56) (v : Value) (w : World) : (Instr.typeAssert (.iface t v) 20 56 true).run Tryd.prog w = .ok (.tuple #[.int .i64 0, .bool false]) w := ta_no t 56 v _ w _ Tryd.underlying56 (by intro ms h; cases h) (fun w => by kernel_rfl) h
theorem my56 (v : Value) (w : World) : (Instr.typeAssert (.iface 56 v) 20 56 false).run Tryd.prog w = .ok v w := tm_yes 56 v w _ Tryd.underlying56 (by intro ms h; cases h)
theorem mn56 (t : TypeId) (h : ¬ t = 56) (v : Value) (w : World) : (Instr.typeAssert (.iface t v) 20 56 false).run Tryd.prog w = .halt (.panic (.iface 15 (.pointer (some ⟨w.heap.size, 0, none⟩)))) (w.alloc (tah t 56)) := tm_no t 56 v w _ Tryd.underlying56 (by intro ms h; cases h) h
theorem y57 (v : Value) (w : World) : (Instr.typeAssert (.iface 57 v) 20 57 true).run Tryd.prog w = .ok (.tuple #[v, .bool true]) w := ta_yes 57 v w _ Tryd.underlying57 (by intro ms h; cases h)
theorem n57 (t : TypeId) (h : ¬ t = 57) (v : Value) (w : World) : (Instr.typeAssert (.iface t v) 20 57 true).run Tryd.prog w = .ok (.tuple #[.string ⟨#[]⟩, .bool false]) w := ta_no t 57 v _ w _ Tryd.underlying57 (by intro ms h; cases h) (fun w => by kernel_rfl) h
theorem my57 (v : Value) (w : World) : (Instr.typeAssert (.iface 57 v) 20 57 false).run Tryd.prog w = .ok v w := tm_yes 57 v w _ Tryd.underlying57 (by intro ms h; cases h)
theorem mn57 (t : TypeId) (h : ¬ t = 57) (v : Value) (w : World) : (Instr.typeAssert (.iface t v) 20 57 false).run Tryd.prog w = .halt (.panic (.iface 15 (.pointer (some ⟨w.heap.size, 0, none⟩)))) (w.alloc (tah t 57)) := tm_no t 57 v w _ Tryd.underlying57 (by intro ms h; cases h) h
theorem y58 (v : Value) (w : World) : (Instr.typeAssert (.iface 58 v) 20 58 true).run Tryd.prog w = .ok (.tuple #[v, .bool true]) w := ta_yes 58 v w _ Tryd.underlying58 (by intro ms h; cases h)
theorem n58 (t : TypeId) (h : ¬ t = 58) (v : Value) (w : World) : (Instr.typeAssert (.iface t v) 20 58 true).run Tryd.prog w = .ok (.tuple #[.int .i64 0, .bool false]) w := ta_no t 58 v _ w _ Tryd.underlying58 (by intro ms h; cases h) (fun w => by kernel_rfl) h
theorem my58 (v : Value) (w : World) : (Instr.typeAssert (.iface 58 v) 20 58 false).run Tryd.prog w = .ok v w := tm_yes 58 v w _ Tryd.underlying58 (by intro ms h; cases h)
theorem mn58 (t : TypeId) (h : ¬ t = 58) (v : Value) (w : World) : (Instr.typeAssert (.iface t v) 20 58 false).run Tryd.prog w = .halt (.panic (.iface 15 (.pointer (some ⟨w.heap.size, 0, none⟩)))) (w.alloc (tah t 58)) := tm_no t 58 v w _ Tryd.underlying58 (by intro ms h; cases h) h
theorem y59 (v : Value) (w : World) : (Instr.typeAssert (.iface 59 v) 20 59 true).run Tryd.prog w = .ok (.tuple #[v, .bool true]) w := ta_yes 59 v w _ Tryd.underlying59 (by intro ms h; cases h)
theorem n59 (t : TypeId) (h : ¬ t = 59) (v : Value) (w : World) : (Instr.typeAssert (.iface t v) 20 59 true).run Tryd.prog w = .ok (.tuple #[.int .i64 0, .bool false]) w := ta_no t 59 v _ w _ Tryd.underlying59 (by intro ms h; cases h) (fun w => by kernel_rfl) h
theorem my59 (v : Value) (w : World) : (Instr.typeAssert (.iface 59 v) 20 59 false).run Tryd.prog w = .ok v w := tm_yes 59 v w _ Tryd.underlying59 (by intro ms h; cases h)
theorem mn59 (t : TypeId) (h : ¬ t = 59) (v : Value) (w : World) : (Instr.typeAssert (.iface t v) 20 59 false).run Tryd.prog w = .halt (.panic (.iface 15 (.pointer (some ⟨w.heap.size, 0, none⟩)))) (w.alloc (tah t 59)) := tm_no t 59 v w _ Tryd.underlying59 (by intro ms h; cases h) h
theorem y60 (v : Value) (w : World) : (Instr.typeAssert (.iface 60 v) 20 60 true).run Tryd.prog w = .ok (.tuple #[v, .bool true]) w := ta_yes 60 v w _ Tryd.underlying60 (by intro ms h; cases h)
theorem n60 (t : TypeId) (h : ¬ t = 60) (v : Value) (w : World) : (Instr.typeAssert (.iface t v) 20 60 true).run Tryd.prog w = .ok (.tuple #[.int .i64 0, .bool false]) w := ta_no t 60 v _ w _ Tryd.underlying60 (by intro ms h; cases h) (fun w => by kernel_rfl) h
theorem my60 (v : Value) (w : World) : (Instr.typeAssert (.iface 60 v) 20 60 false).run Tryd.prog w = .ok v w := tm_yes 60 v w _ Tryd.underlying60 (by intro ms h; cases h)
theorem mn60 (t : TypeId) (h : ¬ t = 60) (v : Value) (w : World) : (Instr.typeAssert (.iface t v) 20 60 false).run Tryd.prog w = .halt (.panic (.iface 15 (.pointer (some ⟨w.heap.size, 0, none⟩)))) (w.alloc (tah t 60)) := tm_no t 60 v w _ Tryd.underlying60 (by intro ms h; cases h) h

set_option maxHeartbeats 400000 in
theorem as_hit0 (v : Value) (w : World) : Calls Tryd.prog 39 #[.iface 54 v, .int .i64 0] w fun e w' => e = .returned (.bool true) ∧ w' = w := by
  have h := y54 v
  go_enter Tryd.func39, Tryd.ntmps39
  go_wp2
  go_ret
  exact ⟨rfl, rfl⟩
set_option maxHeartbeats 400000 in
theorem as_miss0 (t : TypeId) (ht : ¬ t = 54) (v : Value) (w : World) : Calls Tryd.prog 39 #[.iface t v, .int .i64 0] w fun e w' => e = .returned (.bool false) ∧ w' = w := by
  have h := n54 t ht v
  go_enter Tryd.func39, Tryd.ntmps39
  go_wp2
  go_ret
  exact ⟨rfl, rfl⟩
set_option maxHeartbeats 400000 in
theorem must_hit0 (v : Value) (w : World) : Calls Tryd.prog 40 #[.iface 54 v, .int .i64 0] w fun e w' => e = .returned (.iface 54 v) ∧ w' = w := by
  have h := my54 v
  go_enter Tryd.func40, Tryd.ntmps40
  go_wp2
  go_ret
  exact ⟨rfl, rfl⟩
set_option maxHeartbeats 400000 in
theorem must_miss0 (t : TypeId) (ht : ¬ t = 54) (v : Value) (w : World) : Calls Tryd.prog 40 #[.iface t v, .int .i64 0] w fun e w' => e = .panicked [{ v := .iface 15 (.pointer (some ⟨w.heap.size, 0, none⟩)), recovered := false }] ∧ w' = w.alloc (tah t 54) := by
  have h := mn54 t ht v
  go_enter Tryd.func40, Tryd.ntmps40
  go_wp2
  exact ⟨rfl, rfl, rfl⟩

set_option maxHeartbeats 400000 in
theorem as_hit1 (v : Value) (w : World) : Calls Tryd.prog 39 #[.iface 55 v, .int .i64 1] w fun e w' => e = .returned (.bool true) ∧ w' = w := by
  have h := y55 v
  go_enter Tryd.func39, Tryd.ntmps39
  go_wp2
  go_ret
  exact ⟨rfl, rfl⟩
set_option maxHeartbeats 400000 in
theorem as_miss1 (t : TypeId) (ht : ¬ t = 55) (v : Value) (w : World) : Calls Tryd.prog 39 #[.iface t v, .int .i64 1] w fun e w' => e = .returned (.bool false) ∧ w' = w := by
  have h := n55 t ht v
  go_enter Tryd.func39, Tryd.ntmps39
  go_wp2
  go_ret
  exact ⟨rfl, rfl⟩
set_option maxHeartbeats 400000 in
theorem must_hit1 (v : Value) (w : World) : Calls Tryd.prog 40 #[.iface 55 v, .int .i64 1] w fun e w' => e = .returned (.iface 55 v) ∧ w' = w := by
  have h := my55 v
  go_enter Tryd.func40, Tryd.ntmps40
  go_wp2
  go_ret
  exact ⟨rfl, rfl⟩
set_option maxHeartbeats 400000 in
theorem must_miss1 (t : TypeId) (ht : ¬ t = 55) (v : Value) (w : World) : Calls Tryd.prog 40 #[.iface t v, .int .i64 1] w fun e w' => e = .panicked [{ v := .iface 15 (.pointer (some ⟨w.heap.size, 0, none⟩)), recovered := false }] ∧ w' = w.alloc (tah t 55) := by
  have h := mn55 t ht v
  go_enter Tryd.func40, Tryd.ntmps40
  go_wp2
  exact ⟨rfl, rfl, rfl⟩

set_option maxHeartbeats 400000 in
theorem as_hit2 (v : Value) (w : World) : Calls Tryd.prog 39 #[.iface 56 v, .int .i64 2] w fun e w' => e = .returned (.bool true) ∧ w' = w := by
  have h := y56 v
  go_enter Tryd.func39, Tryd.ntmps39
  go_wp2
  go_ret
  exact ⟨rfl, rfl⟩
set_option maxHeartbeats 400000 in
theorem as_miss2 (t : TypeId) (ht : ¬ t = 56) (v : Value) (w : World) : Calls Tryd.prog 39 #[.iface t v, .int .i64 2] w fun e w' => e = .returned (.bool false) ∧ w' = w := by
  have h := n56 t ht v
  go_enter Tryd.func39, Tryd.ntmps39
  go_wp2
  go_ret
  exact ⟨rfl, rfl⟩
set_option maxHeartbeats 400000 in
theorem must_hit2 (v : Value) (w : World) : Calls Tryd.prog 40 #[.iface 56 v, .int .i64 2] w fun e w' => e = .returned (.iface 56 v) ∧ w' = w := by
  have h := my56 v
  go_enter Tryd.func40, Tryd.ntmps40
  go_wp2
  go_ret
  exact ⟨rfl, rfl⟩
set_option maxHeartbeats 400000 in
theorem must_miss2 (t : TypeId) (ht : ¬ t = 56) (v : Value) (w : World) : Calls Tryd.prog 40 #[.iface t v, .int .i64 2] w fun e w' => e = .panicked [{ v := .iface 15 (.pointer (some ⟨w.heap.size, 0, none⟩)), recovered := false }] ∧ w' = w.alloc (tah t 56) := by
  have h := mn56 t ht v
  go_enter Tryd.func40, Tryd.ntmps40
  go_wp2
  exact ⟨rfl, rfl, rfl⟩

set_option maxHeartbeats 400000 in
theorem as_hit3 (v : Value) (w : World) : Calls Tryd.prog 39 #[.iface 57 v, .int .i64 3] w fun e w' => e = .returned (.bool true) ∧ w' = w := by
  have h := y57 v
  go_enter Tryd.func39, Tryd.ntmps39
  go_wp2
  go_ret
  exact ⟨rfl, rfl⟩
set_option maxHeartbeats 400000 in
theorem as_miss3 (t : TypeId) (ht : ¬ t = 57) (v : Value) (w : World) : Calls Tryd.prog 39 #[.iface t v, .int .i64 3] w fun e w' => e = .returned (.bool false) ∧ w' = w := by
  have h := n57 t ht v
  go_enter Tryd.func39, Tryd.ntmps39
  go_wp2
  go_ret
  exact ⟨rfl, rfl⟩
set_option maxHeartbeats 400000 in
theorem must_hit3 (v : Value) (w : World) : Calls Tryd.prog 40 #[.iface 57 v, .int .i64 3] w fun e w' => e = .returned (.iface 57 v) ∧ w' = w := by
  have h := my57 v
  go_enter Tryd.func40, Tryd.ntmps40
  go_wp2
  go_ret
  exact ⟨rfl, rfl⟩
set_option maxHeartbeats 400000 in
theorem must_miss3 (t : TypeId) (ht : ¬ t = 57) (v : Value) (w : World) : Calls Tryd.prog 40 #[.iface t v, .int .i64 3] w fun e w' => e = .panicked [{ v := .iface 15 (.pointer (some ⟨w.heap.size, 0, none⟩)), recovered := false }] ∧ w' = w.alloc (tah t 57) := by
  have h := mn57 t ht v
  go_enter Tryd.func40, Tryd.ntmps40
  go_wp2
  exact ⟨rfl, rfl, rfl⟩

set_option maxHeartbeats 400000 in
theorem as_hit4 (v : Value) (w : World) : Calls Tryd.prog 39 #[.iface 58 v, .int .i64 4] w fun e w' => e = .returned (.bool true) ∧ w' = w := by
  have h := y58 v
  go_enter Tryd.func39, Tryd.ntmps39
  go_wp2
  go_ret
  exact ⟨rfl, rfl⟩
set_option maxHeartbeats 400000 in
theorem as_miss4 (t : TypeId) (ht : ¬ t = 58) (v : Value) (w : World) : Calls Tryd.prog 39 #[.iface t v, .int .i64 4] w fun e w' => e = .returned (.bool false) ∧ w' = w := by
  have h := n58 t ht v
  go_enter Tryd.func39, Tryd.ntmps39
  go_wp2
  go_ret
  exact ⟨rfl, rfl⟩
set_option maxHeartbeats 400000 in
theorem must_hit4 (v : Value) (w : World) : Calls Tryd.prog 40 #[.iface 58 v, .int .i64 4] w fun e w' => e = .returned (.iface 58 v) ∧ w' = w := by
  have h := my58 v
  go_enter Tryd.func40, Tryd.ntmps40
  go_wp2
  go_ret
  exact ⟨rfl, rfl⟩
set_option maxHeartbeats 400000 in
theorem must_miss4 (t : TypeId) (ht : ¬ t = 58) (v : Value) (w : World) : Calls Tryd.prog 40 #[.iface t v, .int .i64 4] w fun e w' => e = .panicked [{ v := .iface 15 (.pointer (some ⟨w.heap.size, 0, none⟩)), recovered := false }] ∧ w' = w.alloc (tah t 58) := by
  have h := mn58 t ht v
  go_enter Tryd.func40, Tryd.ntmps40
  go_wp2
  exact ⟨rfl, rfl, rfl⟩

set_option maxHeartbeats 400000 in
theorem as_hit5 (v : Value) (w : World) : Calls Tryd.prog 39 #[.iface 59 v, .int .i64 5] w fun e w' => e = .returned (.bool true) ∧ w' = w := by
  have h := y59 v
  go_enter Tryd.func39, Tryd.ntmps39
  go_wp2
  go_ret
  exact ⟨rfl, rfl⟩
set_option maxHeartbeats 400000 in
theorem as_miss5 (t : TypeId) (ht : ¬ t = 59) (v : Value) (w : World) : Calls Tryd.prog 39 #[.iface t v, .int .i64 5] w fun e w' => e = .returned (.bool false) ∧ w' = w := by
  have h := n59 t ht v
  go_enter Tryd.func39, Tryd.ntmps39
  go_wp2
  go_ret
  exact ⟨rfl, rfl⟩
set_option maxHeartbeats 400000 in
theorem must_hit5 (v : Value) (w : World) : Calls Tryd.prog 40 #[.iface 59 v, .int .i64 5] w fun e w' => e = .returned (.iface 59 v) ∧ w' = w := by
  have h := my59 v
  go_enter Tryd.func40, Tryd.ntmps40
  go_wp2
  go_ret
  exact ⟨rfl, rfl⟩
set_option maxHeartbeats 400000 in
theorem must_miss5 (t : TypeId) (ht : ¬ t = 59) (v : Value) (w : World) : Calls Tryd.prog 40 #[.iface t v, .int .i64 5] w fun e w' => e = .panicked [{ v := .iface 15 (.pointer (some ⟨w.heap.size, 0, none⟩)), recovered := false }] ∧ w' = w.alloc (tah t 59) := by
  have h := mn59 t ht v
  go_enter Tryd.func40, Tryd.ntmps40
  go_wp2
  exact ⟨rfl, rfl, rfl⟩

set_option maxHeartbeats 400000 in
theorem as_hit6 (v : Value) (w : World) : Calls Tryd.prog 39 #[.iface 60 v, .int .i64 6] w fun e w' => e = .returned (.bool true) ∧ w' = w := by
  have h := y60 v
  go_enter Tryd.func39, Tryd.ntmps39
  go_wp2
  go_ret
  exact ⟨rfl, rfl⟩
set_option maxHeartbeats 400000 in
theorem as_miss6 (t : TypeId) (ht : ¬ t = 60) (v : Value) (w : World) : Calls Tryd.prog 39 #[.iface t v, .int .i64 6] w fun e w' => e = .returned (.bool false) ∧ w' = w := by
  have h := n60 t ht v
  go_enter Tryd.func39, Tryd.ntmps39
  go_wp2
  go_ret
  exact ⟨rfl, rfl⟩
set_option maxHeartbeats 400000 in
theorem must_hit6 (v : Value) (w : World) : Calls Tryd.prog 40 #[.iface 60 v, .int .i64 6] w fun e w' => e = .returned (.iface 60 v) ∧ w' = w := by
  have h := my60 v
  go_enter Tryd.func40, Tryd.ntmps40
  go_wp2
  go_ret
  exact ⟨rfl, rfl⟩
set_option maxHeartbeats 400000 in
theorem must_miss6 (t : TypeId) (ht : ¬ t = 60) (v : Value) (w : World) : Calls Tryd.prog 40 #[.iface t v, .int .i64 6] w fun e w' => e = .panicked [{ v := .iface 15 (.pointer (some ⟨w.heap.size, 0, none⟩)), recovered := false }] ∧ w' = w.alloc (tah t 60) := by
  have h := mn60 t ht v
  go_enter Tryd.func40, Tryd.ntmps40
  go_wp2
  exact ⟨rfl, rfl, rfl⟩

set_option maxHeartbeats 400000 in
theorem as_other (v : Value) (k : Int) (hk : ¬ (0 ≤ k ∧ k ≤ 6)) (w : World) : Calls Tryd.prog 39 #[v, .int .i64 k] w fun e w' => e = .returned (.bool false) ∧ w' = w := by
  have h0 : (k == 0) = false := by simp; omega
  have h1 : (k == 1) = false := by simp; omega
  have h2 : (k == 2) = false := by simp; omega
  have h3 : (k == 3) = false := by simp; omega
  have h4 : (k == 4) = false := by simp; omega
  have h5 : (k == 5) = false := by simp; omega
  have h6 : (k == 6) = false := by simp; omega
  clear hk
  go_enter Tryd.func39, Tryd.ntmps39
  go_wp2
  go_ret
  exact ⟨rfl, rfl⟩
set_option maxHeartbeats 400000 in
theorem must_other (v : Value) (k : Int) (hk : ¬ (0 ≤ k ∧ k ≤ 6)) (w : World) : Calls Tryd.prog 40 #[v, .int .i64 k] w fun e w' => e = .panicked [{ v := .iface 24 (.int .i64 1), recovered := false }] ∧ w' = w := by
  have h0 : (k == 0) = false := by simp; omega
  have h1 : (k == 1) = false := by simp; omega
  have h2 : (k == 2) = false := by simp; omega
  have h3 : (k == 3) = false := by simp; omega
  have h4 : (k == 4) = false := by simp; omega
  have h5 : (k == 5) = false := by simp; omega
  have h6 : (k == 6) = false := by simp; omega
  clear hk
  go_enter Tryd.func40, Tryd.ntmps40
  go_wp2
  exact ⟨rfl, rfl, rfl⟩

end Go.Proofs.YtimmoecjfkacpaaDoor
