/- Type assertions among the boxes' types, and the walks of take, as, must and isKind. -/
import Derived.Test.YtimmoecjfkacpabDoorBx
namespace Go.Proofs.YtimmoecjfkacpabDoor
open Go.RowKit

theorem ta_yes (t : TypeId) (v : Value) (w : World) (u : TypeDesc) (hu : Tryd.prog.underlying t = some u) (hn : ∀ ms, u ≠ .interface ms) : (Instr.typeAssert (.iface t v) 20 t true).run Tryd.prog w = .ok (.tuple #[v, .bool true]) w := by
  unfold Instr.typeAssert
  cases u <;> simp_all [run_underlying hu, go_sem, Result.andThen]
theorem ta_no (t a : TypeId) (v z : Value) (w : World) (u : TypeDesc) (hu : Tryd.prog.underlying a = some u) (hn : ∀ ms, u ≠ .interface ms) (hz : ∀ w, (zeroValue a).run Tryd.prog w = .ok z w) (h : ¬ t = a) : (Instr.typeAssert (.iface t v) 20 a true).run Tryd.prog w = .ok (.tuple #[z, .bool false]) w := by
  unfold Instr.typeAssert
  cases u <;> simp_all [run_underlying hu, go_sem, Result.andThen]
theorem tm_yes (t : TypeId) (v : Value) (w : World) (u : TypeDesc) (hu : Tryd.prog.underlying t = some u) (hn : ∀ ms, u ≠ .interface ms) : (Instr.typeAssert (.iface t v) 20 t false).run Tryd.prog w = .ok v w := by
  unfold Instr.typeAssert
  cases u <;> simp_all [run_underlying hu, go_sem, Result.andThen]
/-- What the run-time's error of a failed assertion holds. -/
noncomputable def tah (t a : TypeId) : Obj := .cells #[typeHandle Tryd.prog 20, typeHandle Tryd.prog t, typeHandle Tryd.prog a, strVal ""] 85
theorem elem15 (w : World) : (elemOf 15).run Tryd.prog w = .ok 85 w := by kernel_rfl
theorem tm_no (t a : TypeId) (v : Value) (w : World) (u : TypeDesc) (hu : Tryd.prog.underlying a = some u) (hn : ∀ ms, u ≠ .interface ms) (h : ¬ t = a) : (Instr.typeAssert (.iface t v) 20 a false).run Tryd.prog w = .halt (.panic (.iface 15 (.pointer (some ⟨w.heap.size, 0, none⟩)))) (w.alloc (tah t a)) := by
  unfold Instr.typeAssert tah
  have he := elem15 w
  cases u <;> simp_all [run_underlying hu, go_sem, Result.andThen, runtimePanic]

theorem y54 (v : Value) (w : World) : (Instr.typeAssert (.iface 52 v) 20 52 true).run Tryd.prog w = .ok (.tuple #[v, .bool true]) w := ta_yes 52 v w _ Tryd.underlying52 (by intro ms h; cases h)
theorem n54 (t : TypeId) (h : ¬ t = 52) (v : Value) (w : World) : (Instr.typeAssert (.iface t v) 20 52 true).run Tryd.prog w = .ok (.tuple #[.agg #[], .bool false]) w := ta_no t 52 v _ w _ Tryd.underlying52 (by intro ms h; cases h) (fun w => by kernel_rfl) h
theorem my54 (v : Value) (w : World) : (Instr.typeAssert (.iface 52 v) 20 52 false).run Tryd.prog w = .ok v w := tm_yes 52 v w _ Tryd.underlying52 (by intro ms h; cases h)
theorem mn54 (t : TypeId) (h : ¬ t = 52) (v : Value) (w : World) : (Instr.typeAssert (.iface t v) 20 52 false).run Tryd.prog w = .halt (.panic (.iface 15 (.pointer (some ⟨w.heap.size, 0, none⟩)))) (w.alloc (tah t 52)) := tm_no t 52 v w _ Tryd.underlying52 (by intro ms h; cases h) h
theorem y55 (v : Value) (w : World) : (Instr.typeAssert (.iface 46 v) 20 46 true).run Tryd.prog w = .ok (.tuple #[v, .bool true]) w := ta_yes 46 v w _ Tryd.underlying46 (by intro ms h; cases h)
theorem n55 (t : TypeId) (h : ¬ t = 46) (v : Value) (w : World) : (Instr.typeAssert (.iface t v) 20 46 true).run Tryd.prog w = .ok (.tuple #[.bool false, .bool false]) w := ta_no t 46 v _ w _ Tryd.underlying46 (by intro ms h; cases h) (fun w => by kernel_rfl) h
theorem my55 (v : Value) (w : World) : (Instr.typeAssert (.iface 46 v) 20 46 false).run Tryd.prog w = .ok v w := tm_yes 46 v w _ Tryd.underlying46 (by intro ms h; cases h)
theorem mn55 (t : TypeId) (h : ¬ t = 46) (v : Value) (w : World) : (Instr.typeAssert (.iface t v) 20 46 false).run Tryd.prog w = .halt (.panic (.iface 15 (.pointer (some ⟨w.heap.size, 0, none⟩)))) (w.alloc (tah t 46)) := tm_no t 46 v w _ Tryd.underlying46 (by intro ms h; cases h) h
theorem y56 (v : Value) (w : World) : (Instr.typeAssert (.iface 47 v) 20 47 true).run Tryd.prog w = .ok (.tuple #[v, .bool true]) w := ta_yes 47 v w _ Tryd.underlying47 (by intro ms h; cases h)
theorem n56 (t : TypeId) (h : ¬ t = 47) (v : Value) (w : World) : (Instr.typeAssert (.iface t v) 20 47 true).run Tryd.prog w = .ok (.tuple #[.int .i64 0, .bool false]) w := ta_no t 47 v _ w _ Tryd.underlying47 (by intro ms h; cases h) (fun w => by kernel_rfl) h
theorem my56 (v : Value) (w : World) : (Instr.typeAssert (.iface 47 v) 20 47 false).run Tryd.prog w = .ok v w := tm_yes 47 v w _ Tryd.underlying47 (by intro ms h; cases h)
theorem mn56 (t : TypeId) (h : ¬ t = 47) (v : Value) (w : World) : (Instr.typeAssert (.iface t v) 20 47 false).run Tryd.prog w = .halt (.panic (.iface 15 (.pointer (some ⟨w.heap.size, 0, none⟩)))) (w.alloc (tah t 47)) := tm_no t 47 v w _ Tryd.underlying47 (by intro ms h; cases h) h
theorem y57 (v : Value) (w : World) : (Instr.typeAssert (.iface 44 v) 20 44 true).run Tryd.prog w = .ok (.tuple #[v, .bool true]) w := ta_yes 44 v w _ Tryd.underlying44 (by intro ms h; cases h)
theorem n57 (t : TypeId) (h : ¬ t = 44) (v : Value) (w : World) : (Instr.typeAssert (.iface t v) 20 44 true).run Tryd.prog w = .ok (.tuple #[.string ⟨#[]⟩, .bool false]) w := ta_no t 44 v _ w _ Tryd.underlying44 (by intro ms h; cases h) (fun w => by kernel_rfl) h
theorem my57 (v : Value) (w : World) : (Instr.typeAssert (.iface 44 v) 20 44 false).run Tryd.prog w = .ok v w := tm_yes 44 v w _ Tryd.underlying44 (by intro ms h; cases h)
theorem mn57 (t : TypeId) (h : ¬ t = 44) (v : Value) (w : World) : (Instr.typeAssert (.iface t v) 20 44 false).run Tryd.prog w = .halt (.panic (.iface 15 (.pointer (some ⟨w.heap.size, 0, none⟩)))) (w.alloc (tah t 44)) := tm_no t 44 v w _ Tryd.underlying44 (by intro ms h; cases h) h
theorem y58 (v : Value) (w : World) : (Instr.typeAssert (.iface 48 v) 20 48 true).run Tryd.prog w = .ok (.tuple #[v, .bool true]) w := ta_yes 48 v w _ Tryd.underlying48 (by intro ms h; cases h)
theorem n58 (t : TypeId) (h : ¬ t = 48) (v : Value) (w : World) : (Instr.typeAssert (.iface t v) 20 48 true).run Tryd.prog w = .ok (.tuple #[.int .i64 0, .bool false]) w := ta_no t 48 v _ w _ Tryd.underlying48 (by intro ms h; cases h) (fun w => by kernel_rfl) h
theorem my58 (v : Value) (w : World) : (Instr.typeAssert (.iface 48 v) 20 48 false).run Tryd.prog w = .ok v w := tm_yes 48 v w _ Tryd.underlying48 (by intro ms h; cases h)
theorem mn58 (t : TypeId) (h : ¬ t = 48) (v : Value) (w : World) : (Instr.typeAssert (.iface t v) 20 48 false).run Tryd.prog w = .halt (.panic (.iface 15 (.pointer (some ⟨w.heap.size, 0, none⟩)))) (w.alloc (tah t 48)) := tm_no t 48 v w _ Tryd.underlying48 (by intro ms h; cases h) h
theorem y59 (v : Value) (w : World) : (Instr.typeAssert (.iface 49 v) 20 49 true).run Tryd.prog w = .ok (.tuple #[v, .bool true]) w := ta_yes 49 v w _ Tryd.underlying49 (by intro ms h; cases h)
theorem n59 (t : TypeId) (h : ¬ t = 49) (v : Value) (w : World) : (Instr.typeAssert (.iface t v) 20 49 true).run Tryd.prog w = .ok (.tuple #[.int .i64 0, .bool false]) w := ta_no t 49 v _ w _ Tryd.underlying49 (by intro ms h; cases h) (fun w => by kernel_rfl) h
theorem my59 (v : Value) (w : World) : (Instr.typeAssert (.iface 49 v) 20 49 false).run Tryd.prog w = .ok v w := tm_yes 49 v w _ Tryd.underlying49 (by intro ms h; cases h)
theorem mn59 (t : TypeId) (h : ¬ t = 49) (v : Value) (w : World) : (Instr.typeAssert (.iface t v) 20 49 false).run Tryd.prog w = .halt (.panic (.iface 15 (.pointer (some ⟨w.heap.size, 0, none⟩)))) (w.alloc (tah t 49)) := tm_no t 49 v w _ Tryd.underlying49 (by intro ms h; cases h) h
theorem y60 (v : Value) (w : World) : (Instr.typeAssert (.iface 50 v) 20 50 true).run Tryd.prog w = .ok (.tuple #[v, .bool true]) w := ta_yes 50 v w _ Tryd.underlying50 (by intro ms h; cases h)
theorem n60 (t : TypeId) (h : ¬ t = 50) (v : Value) (w : World) : (Instr.typeAssert (.iface t v) 20 50 true).run Tryd.prog w = .ok (.tuple #[.int .i64 0, .bool false]) w := ta_no t 50 v _ w _ Tryd.underlying50 (by intro ms h; cases h) (fun w => by kernel_rfl) h
theorem my60 (v : Value) (w : World) : (Instr.typeAssert (.iface 50 v) 20 50 false).run Tryd.prog w = .ok v w := tm_yes 50 v w _ Tryd.underlying50 (by intro ms h; cases h)
theorem mn60 (t : TypeId) (h : ¬ t = 50) (v : Value) (w : World) : (Instr.typeAssert (.iface t v) 20 50 false).run Tryd.prog w = .halt (.panic (.iface 15 (.pointer (some ⟨w.heap.size, 0, none⟩)))) (w.alloc (tah t 50)) := tm_no t 50 v w _ Tryd.underlying50 (by intro ms h; cases h) h

set_option maxHeartbeats 400000 in
theorem as_hit0 (v : Value) (w : World) : Calls Tryd.prog 20 #[.iface 52 v, .int .i64 0] w fun e w' => e = .returned (.bool true) ∧ w' = w := by
  have h := y54 v
  go_enter Tryd.func20, Tryd.ntmps20
  go_wp2
  go_ret
  exact ⟨rfl, rfl⟩
set_option maxHeartbeats 400000 in
theorem as_miss0 (t : TypeId) (ht : ¬ t = 52) (v : Value) (w : World) : Calls Tryd.prog 20 #[.iface t v, .int .i64 0] w fun e w' => e = .returned (.bool false) ∧ w' = w := by
  have h := n54 t ht v
  go_enter Tryd.func20, Tryd.ntmps20
  go_wp2
  go_ret
  exact ⟨rfl, rfl⟩
set_option maxHeartbeats 400000 in
theorem must_hit0 (v : Value) (w : World) : Calls Tryd.prog 24 #[.iface 52 v, .int .i64 0] w fun e w' => e = .returned (.iface 52 v) ∧ w' = w := by
  have h := my54 v
  go_enter Tryd.func24, Tryd.ntmps24
  go_wp2
  go_ret
  exact ⟨rfl, rfl⟩
set_option maxHeartbeats 400000 in
theorem must_miss0 (t : TypeId) (ht : ¬ t = 52) (v : Value) (w : World) : Calls Tryd.prog 24 #[.iface t v, .int .i64 0] w fun e w' => e = .panicked [{ v := .iface 15 (.pointer (some ⟨w.heap.size, 0, none⟩)), recovered := false }] ∧ w' = w.alloc (tah t 52) := by
  have h := mn54 t ht v
  go_enter Tryd.func24, Tryd.ntmps24
  go_wp2
  exact ⟨rfl, rfl, rfl⟩

set_option maxHeartbeats 400000 in
theorem as_hit1 (v : Value) (w : World) : Calls Tryd.prog 20 #[.iface 46 v, .int .i64 1] w fun e w' => e = .returned (.bool true) ∧ w' = w := by
  have h := y55 v
  go_enter Tryd.func20, Tryd.ntmps20
  go_wp2
  go_ret
  exact ⟨rfl, rfl⟩
set_option maxHeartbeats 400000 in
theorem as_miss1 (t : TypeId) (ht : ¬ t = 46) (v : Value) (w : World) : Calls Tryd.prog 20 #[.iface t v, .int .i64 1] w fun e w' => e = .returned (.bool false) ∧ w' = w := by
  have h := n55 t ht v
  go_enter Tryd.func20, Tryd.ntmps20
  go_wp2
  go_ret
  exact ⟨rfl, rfl⟩
set_option maxHeartbeats 400000 in
theorem must_hit1 (v : Value) (w : World) : Calls Tryd.prog 24 #[.iface 46 v, .int .i64 1] w fun e w' => e = .returned (.iface 46 v) ∧ w' = w := by
  have h := my55 v
  go_enter Tryd.func24, Tryd.ntmps24
  go_wp2
  go_ret
  exact ⟨rfl, rfl⟩
set_option maxHeartbeats 400000 in
theorem must_miss1 (t : TypeId) (ht : ¬ t = 46) (v : Value) (w : World) : Calls Tryd.prog 24 #[.iface t v, .int .i64 1] w fun e w' => e = .panicked [{ v := .iface 15 (.pointer (some ⟨w.heap.size, 0, none⟩)), recovered := false }] ∧ w' = w.alloc (tah t 46) := by
  have h := mn55 t ht v
  go_enter Tryd.func24, Tryd.ntmps24
  go_wp2
  exact ⟨rfl, rfl, rfl⟩

set_option maxHeartbeats 400000 in
theorem as_hit2 (v : Value) (w : World) : Calls Tryd.prog 20 #[.iface 47 v, .int .i64 2] w fun e w' => e = .returned (.bool true) ∧ w' = w := by
  have h := y56 v
  go_enter Tryd.func20, Tryd.ntmps20
  go_wp2
  go_ret
  exact ⟨rfl, rfl⟩
set_option maxHeartbeats 400000 in
theorem as_miss2 (t : TypeId) (ht : ¬ t = 47) (v : Value) (w : World) : Calls Tryd.prog 20 #[.iface t v, .int .i64 2] w fun e w' => e = .returned (.bool false) ∧ w' = w := by
  have h := n56 t ht v
  go_enter Tryd.func20, Tryd.ntmps20
  go_wp2
  go_ret
  exact ⟨rfl, rfl⟩
set_option maxHeartbeats 400000 in
theorem must_hit2 (v : Value) (w : World) : Calls Tryd.prog 24 #[.iface 47 v, .int .i64 2] w fun e w' => e = .returned (.iface 47 v) ∧ w' = w := by
  have h := my56 v
  go_enter Tryd.func24, Tryd.ntmps24
  go_wp2
  go_ret
  exact ⟨rfl, rfl⟩
set_option maxHeartbeats 400000 in
theorem must_miss2 (t : TypeId) (ht : ¬ t = 47) (v : Value) (w : World) : Calls Tryd.prog 24 #[.iface t v, .int .i64 2] w fun e w' => e = .panicked [{ v := .iface 15 (.pointer (some ⟨w.heap.size, 0, none⟩)), recovered := false }] ∧ w' = w.alloc (tah t 47) := by
  have h := mn56 t ht v
  go_enter Tryd.func24, Tryd.ntmps24
  go_wp2
  exact ⟨rfl, rfl, rfl⟩

set_option maxHeartbeats 400000 in
theorem as_hit3 (v : Value) (w : World) : Calls Tryd.prog 20 #[.iface 44 v, .int .i64 3] w fun e w' => e = .returned (.bool true) ∧ w' = w := by
  have h := y57 v
  go_enter Tryd.func20, Tryd.ntmps20
  go_wp2
  go_ret
  exact ⟨rfl, rfl⟩
set_option maxHeartbeats 400000 in
theorem as_miss3 (t : TypeId) (ht : ¬ t = 44) (v : Value) (w : World) : Calls Tryd.prog 20 #[.iface t v, .int .i64 3] w fun e w' => e = .returned (.bool false) ∧ w' = w := by
  have h := n57 t ht v
  go_enter Tryd.func20, Tryd.ntmps20
  go_wp2
  go_ret
  exact ⟨rfl, rfl⟩
set_option maxHeartbeats 400000 in
theorem must_hit3 (v : Value) (w : World) : Calls Tryd.prog 24 #[.iface 44 v, .int .i64 3] w fun e w' => e = .returned (.iface 44 v) ∧ w' = w := by
  have h := my57 v
  go_enter Tryd.func24, Tryd.ntmps24
  go_wp2
  go_ret
  exact ⟨rfl, rfl⟩
set_option maxHeartbeats 400000 in
theorem must_miss3 (t : TypeId) (ht : ¬ t = 44) (v : Value) (w : World) : Calls Tryd.prog 24 #[.iface t v, .int .i64 3] w fun e w' => e = .panicked [{ v := .iface 15 (.pointer (some ⟨w.heap.size, 0, none⟩)), recovered := false }] ∧ w' = w.alloc (tah t 44) := by
  have h := mn57 t ht v
  go_enter Tryd.func24, Tryd.ntmps24
  go_wp2
  exact ⟨rfl, rfl, rfl⟩

set_option maxHeartbeats 400000 in
theorem as_hit4 (v : Value) (w : World) : Calls Tryd.prog 20 #[.iface 48 v, .int .i64 4] w fun e w' => e = .returned (.bool true) ∧ w' = w := by
  have h := y58 v
  go_enter Tryd.func20, Tryd.ntmps20
  go_wp2
  go_ret
  exact ⟨rfl, rfl⟩
set_option maxHeartbeats 400000 in
theorem as_miss4 (t : TypeId) (ht : ¬ t = 48) (v : Value) (w : World) : Calls Tryd.prog 20 #[.iface t v, .int .i64 4] w fun e w' => e = .returned (.bool false) ∧ w' = w := by
  have h := n58 t ht v
  go_enter Tryd.func20, Tryd.ntmps20
  go_wp2
  go_ret
  exact ⟨rfl, rfl⟩
set_option maxHeartbeats 400000 in
theorem must_hit4 (v : Value) (w : World) : Calls Tryd.prog 24 #[.iface 48 v, .int .i64 4] w fun e w' => e = .returned (.iface 48 v) ∧ w' = w := by
  have h := my58 v
  go_enter Tryd.func24, Tryd.ntmps24
  go_wp2
  go_ret
  exact ⟨rfl, rfl⟩
set_option maxHeartbeats 400000 in
theorem must_miss4 (t : TypeId) (ht : ¬ t = 48) (v : Value) (w : World) : Calls Tryd.prog 24 #[.iface t v, .int .i64 4] w fun e w' => e = .panicked [{ v := .iface 15 (.pointer (some ⟨w.heap.size, 0, none⟩)), recovered := false }] ∧ w' = w.alloc (tah t 48) := by
  have h := mn58 t ht v
  go_enter Tryd.func24, Tryd.ntmps24
  go_wp2
  exact ⟨rfl, rfl, rfl⟩

set_option maxHeartbeats 400000 in
theorem as_hit5 (v : Value) (w : World) : Calls Tryd.prog 20 #[.iface 49 v, .int .i64 5] w fun e w' => e = .returned (.bool true) ∧ w' = w := by
  have h := y59 v
  go_enter Tryd.func20, Tryd.ntmps20
  go_wp2
  go_ret
  exact ⟨rfl, rfl⟩
set_option maxHeartbeats 400000 in
theorem as_miss5 (t : TypeId) (ht : ¬ t = 49) (v : Value) (w : World) : Calls Tryd.prog 20 #[.iface t v, .int .i64 5] w fun e w' => e = .returned (.bool false) ∧ w' = w := by
  have h := n59 t ht v
  go_enter Tryd.func20, Tryd.ntmps20
  go_wp2
  go_ret
  exact ⟨rfl, rfl⟩
set_option maxHeartbeats 400000 in
theorem must_hit5 (v : Value) (w : World) : Calls Tryd.prog 24 #[.iface 49 v, .int .i64 5] w fun e w' => e = .returned (.iface 49 v) ∧ w' = w := by
  have h := my59 v
  go_enter Tryd.func24, Tryd.ntmps24
  go_wp2
  go_ret
  exact ⟨rfl, rfl⟩
set_option maxHeartbeats 400000 in
theorem must_miss5 (t : TypeId) (ht : ¬ t = 49) (v : Value) (w : World) : Calls Tryd.prog 24 #[.iface t v, .int .i64 5] w fun e w' => e = .panicked [{ v := .iface 15 (.pointer (some ⟨w.heap.size, 0, none⟩)), recovered := false }] ∧ w' = w.alloc (tah t 49) := by
  have h := mn59 t ht v
  go_enter Tryd.func24, Tryd.ntmps24
  go_wp2
  exact ⟨rfl, rfl, rfl⟩

set_option maxHeartbeats 400000 in
theorem as_hit6 (v : Value) (w : World) : Calls Tryd.prog 20 #[.iface 50 v, .int .i64 6] w fun e w' => e = .returned (.bool true) ∧ w' = w := by
  have h := y60 v
  go_enter Tryd.func20, Tryd.ntmps20
  go_wp2
  go_ret
  exact ⟨rfl, rfl⟩
set_option maxHeartbeats 400000 in
theorem as_miss6 (t : TypeId) (ht : ¬ t = 50) (v : Value) (w : World) : Calls Tryd.prog 20 #[.iface t v, .int .i64 6] w fun e w' => e = .returned (.bool false) ∧ w' = w := by
  have h := n60 t ht v
  go_enter Tryd.func20, Tryd.ntmps20
  go_wp2
  go_ret
  exact ⟨rfl, rfl⟩
set_option maxHeartbeats 400000 in
theorem must_hit6 (v : Value) (w : World) : Calls Tryd.prog 24 #[.iface 50 v, .int .i64 6] w fun e w' => e = .returned (.iface 50 v) ∧ w' = w := by
  have h := my60 v
  go_enter Tryd.func24, Tryd.ntmps24
  go_wp2
  go_ret
  exact ⟨rfl, rfl⟩
set_option maxHeartbeats 400000 in
theorem must_miss6 (t : TypeId) (ht : ¬ t = 50) (v : Value) (w : World) : Calls Tryd.prog 24 #[.iface t v, .int .i64 6] w fun e w' => e = .panicked [{ v := .iface 15 (.pointer (some ⟨w.heap.size, 0, none⟩)), recovered := false }] ∧ w' = w.alloc (tah t 50) := by
  have h := mn60 t ht v
  go_enter Tryd.func24, Tryd.ntmps24
  go_wp2
  exact ⟨rfl, rfl, rfl⟩

set_option maxHeartbeats 400000 in
theorem as_other (v : Value) (k : Int) (hk : ¬ (0 ≤ k ∧ k ≤ 6)) (w : World) : Calls Tryd.prog 20 #[v, .int .i64 k] w fun e w' => e = .returned (.bool false) ∧ w' = w := by
  have h0 : (k == 0) = false := by simp; omega
  have h1 : (k == 1) = false := by simp; omega
  have h2 : (k == 2) = false := by simp; omega
  have h3 : (k == 3) = false := by simp; omega
  have h4 : (k == 4) = false := by simp; omega
  have h5 : (k == 5) = false := by simp; omega
  have h6 : (k == 6) = false := by simp; omega
  clear hk
  go_enter Tryd.func20, Tryd.ntmps20
  go_wp2
  go_ret
  exact ⟨rfl, rfl⟩
set_option maxHeartbeats 400000 in
theorem must_other (v : Value) (k : Int) (hk : ¬ (0 ≤ k ∧ k ≤ 6)) (w : World) : Calls Tryd.prog 24 #[v, .int .i64 k] w fun e w' => e = .panicked [{ v := .iface 25 (.int .i64 1), recovered := false }] ∧ w' = w := by
  have h0 : (k == 0) = false := by simp; omega
  have h1 : (k == 1) = false := by simp; omega
  have h2 : (k == 2) = false := by simp; omega
  have h3 : (k == 3) = false := by simp; omega
  have h4 : (k == 4) = false := by simp; omega
  have h5 : (k == 5) = false := by simp; omega
  have h6 : (k == 6) = false := by simp; omega
  clear hk
  go_enter Tryd.func24, Tryd.ntmps24
  go_wp2
  exact ⟨rfl, rfl, rfl⟩

end Go.Proofs.YtimmoecjfkacpabDoor
